import copy
import itertools
import math
import unittest

from loomlook.errors import TooMany
from loomlook.looking import closed, ends, many, seen, way_to
from loomlook.looms import loom_of
from loomlook.weaving import woven
from tests.helper import ORDINARY, SMALLEST, able_in, all_states, all_weavings, chance_loom, first_of, idlers
from tests.helper import kinds_of, loom_with, started, stepped

ONE = ("number", 1)
ZERO = ("number", 0)

RACE = loom_with(*[[("get", "a", "x"), ("put", "x", ("plus", ("own", "a"), ONE))]] * 2)

# One worker may come to the same state by one step or by three: the longer weavings must be counted too.
SHORT_AND_LONG = loom_with([("get", "a", "x"), ("unless", ("own", "a"), 2), ("set", "a", ZERO), ("skip", 0)],
                           [("put", "x", ONE), ("put", "x", ZERO)])


# 3 * 16 * 31 = 1488 states behind the start.
JUST_ENOUGH = started(12, 2, 15, 30)
ONE_TOO_MANY = started(13, 2, 15, 30)


class LookingTest(unittest.TestCase):
    def same(self, one, other):
        self.assertEqual(kinds_of(one), kinds_of(other))

    def too_many(self, call, *handed):
        try:
            call(*handed)
        except ValueError as e:
            self.assertIs(type(e), TooMany)
        else:
            self.fail("not refused")


class SmallLoomsTest(LookingTest):
    def looks(self, loom):
        """All that is told of a loom is as all its weavings tell it, gone through one by one."""
        loom = loom_of(*loom)
        kept = copy.deepcopy(loom)
        ways = {}
        weavings = 0
        for weaving, state in all_weavings(loom):
            ways.setdefault(state, weaving)
            weavings += able_in(loom, state) == []
        self.same(seen(loom), list(ways))
        self.same(ends(loom), sorted(state for state in ways if able_in(loom, state) == []))
        self.same(many(loom), weavings)
        for state, way in ways.items():
            self.same(way_to(loom, state), way)
            self.same(woven(loom, way), state)
        self.assertEqual(loom, kept)

    def test_looms_with_something_told_of_them(self):
        for loom in [SMALLEST, RACE, SHORT_AND_LONG, loom_with([("take", "l"), ("take", "m")], [("take", "m"), ("take", "l")]),
                     loom_with([("check", ZERO)], [("give", "l")], [("wait", "x", ONE)]),
                     loom_with([("unless", ("own", "a"), 2), ("skip", 1), ("skip", 0), ("skip", 0)], [("skip", 0)] * 3)]:
            self.looks(loom)

    def test_many_looms(self):
        for seed in range(400):
            self.looks(chance_loom(seed))


class SeenTest(LookingTest):
    def test_the_first_state_is_an_end(self):
        self.same(seen(SMALLEST), [((), (), ((0, ()),))])

    def test_the_order(self):
        one, two = ("take", "l"), ("give", "l")
        loom = loom_with([one, two], [one, two], boxes=(), locks=("l",), owns=())
        self.same(seen(loom), [
            ((), (-1,), ((0, ()), (0, ()))),
            ((), (0,), ((1, ()), (0, ()))), ((), (1,), ((0, ()), (1, ()))),
            ((), (-1,), ((2, ()), (0, ()))), ((), (-1,), ((0, ()), (2, ()))),
            ((), (1,), ((2, ()), (1, ()))), ((), (0,), ((1, ()), (2, ()))),
            ((), (-1,), ((2, ()), (2, ()))),
        ])

    def test_none_twice_by_two_ways(self):
        for loom in [idlers(3, 3), idlers(4, 2, 3), RACE, SHORT_AND_LONG, loom_with(*[[("add", "x", ONE)] * 3] * 3)]:
            states = seen(loom)
            self.assertEqual(len(states), len(set(states)))
            self.assertEqual(set(states), set(all_states(loom)))
        self.assertEqual(len(seen(idlers(3, 3))), 16)
        self.assertEqual(len(seen(idlers(4, 2, 3))), 60)

    def test_an_ordinary_loom(self):
        states = seen(ORDINARY)
        self.assertEqual(states[0], first_of(ORDINARY))
        self.assertEqual(set(states), set(all_states(ORDINARY)))
        self.assertEqual(len(states), len(set(states)))


class BoundTest(LookingTest):
    def test_just_1500(self):
        for loom in [JUST_ENOUGH, idlers(9, 9, 14)]:
            states = seen(loom)
            self.assertEqual(len(states), 1500)
            self.assertEqual(set(states), set(all_states(loom)))
            self.assertEqual(len(ends(loom)), 1)
            self.assertEqual(way_to(loom, states[0]), [])
            self.assertEqual(woven(loom, way_to(loom, states[-1])), states[-1])
        self.assertEqual(many(idlers(9, 9, 14)), math.factorial(32) // math.factorial(9) ** 2 // math.factorial(14))
        self.assertEqual(many(JUST_ENOUGH), math.factorial(47) // math.factorial(2) // math.factorial(15)
                         // math.factorial(30))

    def test_1501(self):
        states = all_states(ONE_TOO_MANY)
        self.assertEqual(len(states), 1501)
        for call in (seen, ends, many):
            self.too_many(call, ONE_TOO_MANY)
        elsewhere = ((1,), (), ((0, ()),) * 4)
        self.assertNotIn(elsewhere, states)
        for state in [states[0], states[1], states[700], states[-1], elsewhere]:
            self.too_many(way_to, ONE_TOO_MANY, state)

    def test_far_more(self):
        for loom in [idlers(30, 30, 30, 30, 30, 30), idlers(30, 30, 1)]:
            for call in (seen, ends, many):
                self.too_many(call, loom)
            self.too_many(way_to, loom, first_of(loom))

    def test_closed_knows_no_bound(self):
        for loom in [ONE_TOO_MANY, idlers(30, 30, 1)]:
            states = all_states(loom)
            self.assertGreater(len(states), 1500)
            self.assertIs(closed(loom, states), True)
            self.assertIs(closed(loom, states[::-1]), True)
            self.assertIs(closed(loom, states[:-1]), False)
            self.assertIs(closed(loom, states[:1500]), False)
            self.assertIs(closed(loom, []), False)


class EndsTest(LookingTest):
    def test_the_first_state_is_an_end(self):
        self.same(ends(SMALLEST), seen(SMALLEST))
        stuck = loom_with([("wait", "x", ONE)])
        self.same(ends(stuck), [first_of(stuck)])

    def test_rising(self):
        loom = loom_with([("put", "x", ("number", 2))], [("put", "x", ("number", 4))], [("put", "x", ONE)])
        spots = ((1, (0, 1)),) * 3
        self.same(ends(loom), [((x, 0), (-1, -1), spots) for x in [1, 2, 4]])

    def test_ends_of_each_word(self):
        crossing = loom_with([("take", "l"), ("take", "m")], [("take", "m"), ("take", "l")], boxes=(), owns=())
        self.same(ends(crossing), [
            ((), (0, 0), ((2, ()), (0, ()))),
            ((), (0, 1), ((1, ()), (1, ()))),
            ((), (1, 1), ((0, ()), (2, ()))),
        ])
        breaking = loom_with([("get", "a", "x"), ("check", ("own", "a"))], [("put", "x", ONE)], locks=(), owns=(("a", 0),))
        self.same(ends(breaking), [((1, 0), (), ((-1, (0,)), (1, (0,)))), ((1, 0), (), ((2, (1,)), (1, (0,))))])


class WayTest(LookingTest):
    def test_the_first_state(self):
        for loom in [SMALLEST, ORDINARY, RACE]:
            self.same(way_to(loom, first_of(loom)), [])

    def test_the_least_of_the_shortest(self):
        loom = idlers(2, 2)
        self.same(way_to(loom, ((), (), ((2, ()), (2, ())))), [0, 0, 1, 1])
        self.same(way_to(loom, ((), (), ((1, ()), (2, ())))), [0, 1, 1])
        # Three ways of three steps come to it.
        loom = loom_with([("get", "a", "x"), ("unless", ("own", "a"), 1), ("set", "a", ZERO)], [("put", "x", ONE)])
        state = ((1, 0), (-1, -1), ((3, (0, 1)), (1, (0, 1))))
        self.same(way_to(loom, state), [0, 0, 1])

    def test_a_shorter_way_is_told_ahead_of_a_lesser_one(self):
        # With worker 0's get first it goes the long way round; behind worker 1's put it goes the short one.
        steps = [("get", "a", "x"), ("unless", ("own", "a"), 1), ("skip", 2), ("skip", 0), ("skip", 0), ("set", "a", ONE)]
        loom = loom_with(steps, [("put", "x", ONE)])
        end = ((1, 0), (-1, -1), ((6, (1, 1)), (1, (0, 1))))
        self.same(way_to(loom, end), [1, 0, 0, 0, 0])
        self.assertEqual(woven(loom, [0, 0, 0, 0, 0, 1]), end)

    def test_none_comes_to_it(self):
        first = first_of(RACE)
        for state in [((4, 0), first[1], first[2]), (first[0], (0, -1), first[2]), (first[0], (1, 1), first[2]),
                      (first[0], first[1], ((2, (0, 1)), (0, (0, 1)))), (first[0], first[1], ((-1, (0, 1)), (0, (0, 1)))),
                      (first[0], first[1], ((0, (3, 1)), (0, (0, 1)))), ((0, 9), first[1], first[2])]:
            self.assertIsNone(way_to(RACE, state))
            self.assertIsNone(way_to(RACE, state))


class ManyTest(LookingTest):
    def test_the_first_state_is_an_end(self):
        self.same(many(SMALLEST), 1)
        self.same(many(loom_with([("wait", "x", ONE)], [])), 1)

    def test_workers_that_touch_nothing(self):
        for n, m in itertools.product([0, 1, 2, 5, 13, 30], repeat=2):
            self.same(many(idlers(n, m)), math.comb(n + m, n))
        self.same(many(idlers(1, 1, 1, 1, 1, 1)), 720)
        self.same(many(idlers(30)), 1)

    def test_a_race(self):
        self.same(many(RACE), 6)
        self.same(many(loom_with([("take", "l"), ("give", "l")], [("take", "l"), ("give", "l")])), 2)
        self.same(many(loom_with([("take", "l"), ("take", "m")], [("take", "m"), ("take", "l")])), 4)

    def test_weavings_of_unlike_lengths(self):
        self.same(many(SHORT_AND_LONG), sum(able_in(SHORT_AND_LONG, state) == []
                                            for weaving, state in all_weavings(SHORT_AND_LONG)))
        loom = loom_with([("check", ZERO)] + [("skip", 0)] * 29, [("skip", 0)] * 2)
        self.same(many(loom), 3)

    def test_a_worker_that_breaks_late_or_early(self):
        # The state in which it broke is come to from several places, by weavings of two and of four steps.
        steps = [("get", "a", "x"), ("check", ("own", "a")), ("get", "a", "x"), ("check", ("own", "a"))]
        loom = loom_with(steps, [("put", "x", ONE), ("put", "x", ZERO)])
        self.same(many(loom), sum(able_in(loom, state) == [] for weaving, state in all_weavings(loom)))


class ClosedTest(LookingTest):
    LOOMS = [SMALLEST, RACE, SHORT_AND_LONG, ORDINARY] + [chance_loom(seed) for seed in range(40)]

    def is_closed(self, loom, states, answer):
        kept = copy.deepcopy(states)
        self.assertIs(closed(loom, states), answer)
        self.assertEqual(states, kept)

    def test_all_that_is_seen(self):
        for loom in self.LOOMS:
            states = all_states(loom)
            self.is_closed(loom, states, True)
            self.is_closed(loom, states[::-1], True)
            self.is_closed(loom, sorted(states), True)
            self.is_closed(loom, states + states, True)
            self.is_closed(loom, states + states[-1:], True)
            self.is_closed(loom, seen(loom), True)

    def test_a_state_left_out(self):
        for loom in self.LOOMS:
            states = all_states(loom)
            for place in range(0, len(states), 1 + len(states) // 40):
                self.is_closed(loom, states[:place] + states[place + 1:], False)
                self.is_closed(loom, (states[:place] + states[place + 1:]) * 2, False)

    def test_the_ends_alone_and_none(self):
        for loom in self.LOOMS:
            self.is_closed(loom, [], False)
            self.is_closed(loom, ends(loom), first_of(loom) in ends(loom))

    def test_one_more_that_nothing_comes_to(self):
        states = all_states(RACE)
        first = first_of(RACE)
        ended = ((4, 4), (1, 1), ((2, (3, 3)), (2, (4, 4))))
        self.is_closed(RACE, states + [ended], True)
        self.is_closed(RACE, [ended] + states, True)
        broken = ((4, 4), (1, 1), ((-1, (3, 3)), (2, (4, 4))))
        self.is_closed(RACE, states + [broken], True)
        begun = ((4, 4), (-1, -1), ((1, (3, 3)), (2, (4, 4))))
        self.is_closed(RACE, states + [begun], False)
        self.is_closed(RACE, states + [begun, stepped(RACE, begun, 0)], True)
        self.is_closed(RACE, states + [((4, 0), first[1], first[2])], False)

    def test_a_closed_list_without_the_first_state(self):
        ended = ((4, 4), (1, 1), ((2, (3, 3)), (2, (4, 4))))
        self.is_closed(RACE, [ended], False)
        states = all_states(RACE)
        self.is_closed(RACE, states[1:], False)
        self.is_closed(RACE, states[1:] + [ended], False)


class OwnTest(LookingTest):
    def test_lists_told_are_the_asker_s_own(self):
        loom = loom_of(*RACE)
        end = ends(loom)[0]
        for call in (seen, ends, lambda loom: way_to(loom, end)):
            first = call(loom)
            kept = copy.deepcopy(first)
            first.reverse()
            first.pop()
            first.append(None)
            self.same(call(loom), kept)
            later = call(loom)
            call(loom).clear()
            many(loom)
            self.same(later, kept)
        self.same(many(loom), 6)

    def test_a_refusal_leaves_nothing_behind(self):
        before = seen(RACE)
        self.too_many(seen, ONE_TOO_MANY)
        self.same(seen(RACE), before)
        self.too_many(seen, ONE_TOO_MANY)
