import copy
import unittest

from loomlook.errors import TooMany
from loomlook.lean import lean_ends, lean_seen, lean_way
from loomlook.looking import ends, seen, way_to
from loomlook.looms import loom_of
from loomlook.weaving import woven
from tests.helper import GREATEST, ORDINARY, SMALLEST, able_in, all_states, busy_loom, chance_loom, crowd, first_of
from tests.helper import idlers, kept_told, kinds_of, lean_weavings, loom_with, started, stepped

ONE = ("number", 1)
ZERO = ("number", 0)

RACE = loom_with(*[[("get", "a", "x"), ("put", "x", ("plus", ("own", "a"), ONE))]] * 2)

X = ("put", "x", ONE)
Y = ("put", "y", ONE)
IDLE = ("skip", 0)

CROSSING = loom_with([("take", "l"), ("take", "m")], [("take", "m"), ("take", "l")])


# 3 * 16 * 31 = 1488 states behind the start.
JUST_ENOUGH = loom_of(*crowd(12, 2, 15, 30))
ONE_TOO_MANY = loom_of(*crowd(13, 2, 15, 30))


class LeanTest(unittest.TestCase):
    def same(self, one, other):
        self.assertEqual(kinds_of(one), kinds_of(other))

    def too_many(self, call, *handed):
        kept = copy.deepcopy(handed)
        try:
            call(*handed)
        except ValueError as e:
            self.assertIs(type(e), TooMany)
        else:
            self.fail("not refused")
        self.assertEqual(handed, kept)


class SmallLoomsTest(LeanTest):
    def looks(self, loom):
        """All that is told is as the weavings by kept workers tell it, gone through one by one."""
        loom = loom_of(*loom)
        kept = copy.deepcopy(loom)
        ways = {}
        for weaving, state in lean_weavings(loom):
            ways.setdefault(state, weaving)
        self.same(lean_seen(loom), list(ways))
        plain = all_states(loom)
        self.same(lean_ends(loom), sorted(state for state in plain if able_in(loom, state) == []))
        for state in plain:
            self.same(lean_way(loom, state), ways.get(state))
            if state in ways:
                self.same(woven(loom, ways[state]), state)
        self.assertEqual(loom, kept)
        return len(plain) - len(ways)

    def test_looms_with_something_told_of_them(self):
        for loom in [SMALLEST, RACE, CROSSING, idlers(2, 1, 2), loom_with([X, X], [Y, Y]),
                     loom_with([("check", ZERO), X], [("give", "l"), X], [("get", "a", "x")]),
                     loom_with([("wait", "x", ONE), Y], [IDLE, X, ("put", "x", ZERO)], [("get", "a", "y")])]:
            self.looks(loom)

    def test_many_looms(self):
        fewer = 0
        for seed in range(300):
            fewer += self.looks(chance_loom(seed)) > 0
        self.assertGreater(fewer, 60)

    def test_busy_looms(self):
        fewer = 0
        for seed in range(100):
            fewer += self.looks(busy_loom(seed)) > 0
        self.assertGreater(fewer, 20)

    def test_the_ends_of_greater_looms(self):
        fewer = 0
        for seed in range(150):
            for loom in [chance_loom(seed, most_workers=4, most_steps=5), busy_loom(seed, most_steps=4)]:
                states = all_states(loom)
                if len(states) <= 1500:
                    self.same(lean_ends(loom), sorted(state for state in states if able_in(loom, state) == []))
                    fewer += len(lean_seen(loom)) < len(states)
        self.assertGreater(fewer, 60)


class SeenTest(LeanTest):
    def test_the_first_state_is_an_end(self):
        self.same(lean_seen(SMALLEST), [first_of(SMALLEST)])
        stuck = loom_with([("wait", "x", ONE)], [])
        self.same(lean_seen(stuck), [first_of(stuck)])

    def test_the_order(self):
        self.same(lean_seen(idlers(2, 1)), [((), (), ((0, ()), (0, ()))), ((), (), ((1, ()), (0, ()))),
                                            ((), (), ((2, ()), (0, ()))), ((), (), ((2, ()), (1, ())))])
        # The idle worker goes first, though it is the last one; then all that the two others come to.
        puts = loom_with([("put", "x", ONE)], [("put", "x", ("number", 2))], [IDLE], locks=(), owns=())
        self.same(lean_seen(puts), [
            ((0, 0), (), ((0, ()), (0, ()), (0, ()))), ((0, 0), (), ((0, ()), (0, ()), (1, ()))),
            ((1, 0), (), ((1, ()), (0, ()), (1, ()))), ((2, 0), (), ((0, ()), (1, ()), (1, ()))),
            ((2, 0), (), ((1, ()), (1, ()), (1, ()))), ((1, 0), (), ((1, ()), (1, ()), (1, ()))),
        ])

    def test_where_all_are_kept_all_is_seen(self):
        for loom in [RACE, crowd(2, 3, 4), loom_with([X] * 3, [X] * 4)]:
            self.same(lean_seen(loom), seen(loom))

    def test_each_state_once(self):
        for loom in [ORDINARY, RACE, CROSSING, crowd(3, 3, 4, 5)]:
            states = lean_seen(loom)
            self.assertEqual(len(states), len(set(states)))
            self.assertEqual(states[0], first_of(loom))

    def test_only_by_kept_workers(self):
        for loom in [ORDINARY, CROSSING, loom_with([X, IDLE], [X, Y], [Y, IDLE])]:
            states = lean_seen(loom)
            behind = {stepped(loom, state, worker) for state in states for worker in kept_told(loom, state)[1]}
            self.assertEqual(set(states), behind | {first_of(loom)})


class EndsTest(LeanTest):
    def test_rising(self):
        puts = loom_with(*[[("put", "x", ("number", number))] for number in [2, 4, 1]])
        self.same(lean_ends(puts), [((x, 0), (-1, -1), ((1, (0, 1)),) * 3) for x in [1, 2, 4]])

    def test_ends_of_each_word(self):
        for loom in [SMALLEST, ORDINARY, RACE, CROSSING, loom_with([("wait", "x", ONE)], []),
                     loom_with([("get", "a", "x"), ("check", ("own", "a"))], [X], [IDLE, X])]:
            self.same(lean_ends(loom), ends(loom))
        self.assertEqual(len(lean_ends(CROSSING)), 3)


class WayTest(LeanTest):
    def test_the_first_state(self):
        for loom in [SMALLEST, ORDINARY, RACE, GREATEST, JUST_ENOUGH]:
            self.same(lean_way(loom, first_of(loom)), [])

    def test_to_each_end_and_each_state(self):
        for loom in [ORDINARY, RACE, CROSSING, crowd(3, 3, 4)]:
            for state in lean_seen(loom):
                way = lean_way(loom, state)
                self.assertEqual(woven(loom, way), state)
                self.by_kept_ones(loom, way)
            for end in ends(loom):
                self.assertEqual(woven(loom, lean_way(loom, end)), end)

    def by_kept_ones(self, loom, way):
        state = first_of(loom)
        for worker in way:
            self.assertIn(worker, kept_told(loom, state)[1])
            state = stepped(loom, state, worker)

    def test_the_least_of_the_shortest(self):
        loom = loom_with([X, X], [X, X])
        self.same(lean_way(loom, ends(loom)[0]), [0, 0, 1, 1])
        # The idle worker goes first, so no lesser way is a lean one.
        loom = loom_with([X], [X], [IDLE])
        self.same(lean_way(loom, ends(loom)[0]), [2, 0, 1])
        self.same(way_to(loom, ends(loom)[0]), [0, 1, 2])

    def test_a_shorter_way_is_told_ahead_of_a_lesser_one(self):
        # With worker 0's get first it goes the long way round; behind worker 1's put it goes the short one.
        steps = [("get", "a", "x"), ("unless", ("own", "a"), 1), ("skip", 2), IDLE, IDLE, ("set", "a", ONE)]
        loom = loom_with(steps, [X])
        end = ((1, 0), (-1, -1), ((6, (1, 1)), (1, (0, 1))))
        self.same(lean_way(loom, end), [1, 0, 0, 0, 0])
        lesser = [0, 0, 0, 0, 0, 1]
        self.by_kept_ones(loom, [1, 0, 0, 0, 0])
        self.assertEqual(woven(loom, lesser), end)

    def test_no_lean_way_is_shorter_than_the_plain_one(self):
        for seed in range(300):
            loom = chance_loom(seed)
            for state in lean_seen(loom):
                self.assertLessEqual(len(way_to(loom, state)), len(lean_way(loom, state)))

    def test_a_state_that_only_the_plain_looking_comes_to(self):
        loom = idlers(1, 1)
        state = ((), (), ((0, ()), (1, ())))
        self.same(way_to(loom, state), [1])
        self.assertIsNone(lean_way(loom, state))
        self.assertNotIn(state, lean_seen(loom))

    def test_a_state_to_which_nothing_comes(self):
        first = first_of(RACE)
        for state in [((4, 0), first[1], first[2]), (first[0], (0, -1), first[2]), (first[0], (1, 1), first[2]),
                      (first[0], first[1], ((2, (0, 1)), (0, (0, 1)))), (first[0], first[1], ((0, (3, 1)), (0, (0, 1)))),
                      (first[0], first[1], ((-1, (0, 1)), (0, (0, 1))))]:
            self.assertIsNone(lean_way(RACE, state))
            self.assertIsNone(way_to(RACE, state))


class BoundTest(LeanTest):
    def test_just_1500(self):
        for loom in [JUST_ENOUGH, loom_of(*loom_with([X] * 9, [X] * 9, [X] * 14))]:
            states = lean_seen(loom)
            self.assertEqual(len(states), 1500)
            self.assertEqual(set(states), set(all_states(loom)))
            self.assertEqual(lean_ends(loom), [state for state in states if able_in(loom, state) == []])
            self.same(lean_way(loom, states[0]), [])
            self.assertEqual(woven(loom, lean_way(loom, states[-1])), states[-1])
            self.assertIsNone(lean_way(loom, ((4, 4),) + states[0][1:]))

    def test_1501(self):
        states = all_states(ONE_TOO_MANY)
        self.assertEqual(len(states), 1501)
        self.too_many(lean_seen, ONE_TOO_MANY)
        self.too_many(lean_ends, ONE_TOO_MANY)
        elsewhere = ((4, 4),) + states[0][1:]
        self.assertNotIn(elsewhere, states)
        for state in [states[0], states[1], states[700], states[-1], elsewhere]:
            self.too_many(lean_way, ONE_TOO_MANY, state)

    def test_far_more(self):
        loom = loom_of(5, (("x", 0),), (), (("p", (), (X,) * 30),), (0,) * 6, ())
        self.too_many(lean_seen, loom)
        self.too_many(lean_ends, loom)
        self.too_many(lean_way, loom, first_of(loom))

    def test_too_many_for_the_plain_looking_alone(self):
        line = [worker for worker in range(6) for turn in range(30)]
        for loom in [loom_of(*idlers(*[30] * 6)), GREATEST]:
            self.too_many(seen, loom)
            self.too_many(ends, loom)
            states = lean_seen(loom)
            self.same(states, [woven(loom, line[:many]) for many in range(181)])
            self.same(lean_ends(loom), [woven(loom, line)])
            self.same(lean_way(loom, woven(loom, line)), line)
            self.same(lean_way(loom, states[77]), line[:77])
            self.assertIsNone(lean_way(loom, woven(loom, [5])))
        barely = loom_of(*started(13, 2, 15, 30))
        self.too_many(seen, barely)
        self.assertEqual(len(lean_seen(barely)), 1 + 13 + 2 + 15 + 30)

    def test_a_refusal_leaves_nothing_behind(self):
        before = lean_seen(RACE)
        self.too_many(lean_seen, ONE_TOO_MANY)
        self.same(lean_seen(RACE), before)


class OwnTest(LeanTest):
    def test_lists_told_are_the_asker_s_own(self):
        loom = loom_of(*RACE)
        end = lean_ends(loom)[0]
        for call in (lean_seen, lean_ends, lambda loom: lean_way(loom, end)):
            first = call(loom)
            kept = copy.deepcopy(first)
            first.reverse()
            first.pop()
            first.append(None)
            self.same(call(loom), kept)
            later = call(loom)
            call(loom).clear()
            lean_seen(loom)
            self.same(later, kept)

    def test_the_way_to_the_first_state_is_the_asker_s_own(self):
        lean_way(RACE, first_of(RACE)).append(9)
        self.same(lean_way(RACE, first_of(RACE)), [])
