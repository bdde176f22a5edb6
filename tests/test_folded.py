import copy

from loomlook.errors import TooMany
from loomlook.folded import folded_ends, folded_seen, folded_way
from loomlook.folding import fold
from loomlook.lean import lean_ends, lean_seen
from loomlook.looking import ends, seen
from loomlook.looms import loom_of
from loomlook.weaving import woven
from tests.helper import GREATEST, ORDINARY, SMALLEST, HandedTest, able_in, all_states, busy_loom, chance_loom, crowd
from tests.helper import first_of, folded_states, folded_told, idlers, loom_with, paired_loom, started, stepped, with_part

ONE = ("number", 1)
IDLE = ("skip", 0)

LOCKERS = loom_of(*with_part(loom_with([("take", "l"), ("give", "l")], boxes=(), locks=("l",), owns=()), workers=(0, 0)))
RACE = loom_of(*with_part(loom_with([("get", "a", "x"), ("put", "x", ("plus", ("own", "a"), ONE))]), workers=(0, 0, 0)))
# Nothing that one of them does concerns the others.
ADDERS = loom_of(*with_part(loom_with([("add", "x", ONE), ("add", "y", ONE)]), workers=(0, 0, 0)))
CROSSING = loom_of(*with_part(loom_with([("take", "l"), ("take", "m")], [("take", "m"), ("take", "l")]),
                              workers=(0, 1, 0, 1)))

# 3 * 32 * 31 / 2 = 1488 folded states behind the start, where two alike workers have 31 places each.
JUST_ENOUGH = loom_of(*with_part(started(12, 2, 30), workers=(0, 1, 2, 2)))
ONE_TOO_MANY = loom_of(*with_part(started(13, 2, 30), workers=(0, 1, 2, 2)))
LEAN_JUST_ENOUGH = loom_of(*with_part(crowd(12, 2, 30), workers=(0, 1, 2, 2)))
LEAN_ONE_TOO_MANY = loom_of(*with_part(crowd(13, 2, 30), workers=(0, 1, 2, 2)))


class SmallLoomsTest(HandedTest):
    def looks(self, loom):
        """All that is told is as folding tells it that goes through all exchanges of each state."""
        loom = loom_of(*loom)
        kept = copy.deepcopy(loom)
        plain_ends = {folded_told(loom, state) for state in all_states(loom) if able_in(loom, state) == []}
        for lean in (False, True):
            states = folded_states(loom, lean)
            self.same(folded_seen(loom, lean), states)
            self.same(folded_ends(loom, lean), sorted(plain_ends))
            for state in states:
                self.comes(loom, folded_way(loom, state, lean), state)
        states = folded_states(loom, False)
        self.same(folded_seen(loom), states)
        self.same(folded_ends(loom), sorted(plain_ends))
        self.assertEqual(loom, kept)
        return len(all_states(loom)) - len(states), len(states) - len(folded_seen(loom, True))

    def comes(self, loom, way, folded):
        self.assertIs(type(way), list)
        state = first_of(loom)
        for worker in way:
            self.assertIs(type(worker), int)
            self.assertIn(worker, able_in(loom, state))
            state = stepped(loom, state, worker)
        self.same(folded_told(loom, state), folded)

    def test_looms_with_something_told_of_them(self):
        for loom in [SMALLEST, LOCKERS, RACE, ADDERS, CROSSING, idlers(2, 1, 2), idlers(1, 1, 1, 1), crowd(2, 2, 3)]:
            self.looks(loom)

    def test_looms_of_alike_workers(self):
        pairs = [self.looks(paired_loom(seed)) for seed in range(120)]
        self.assertGreater(len([pair for pair in pairs if pair[0] > 0]), 60)
        self.assertGreater(len([pair for pair in pairs if pair[1] > 0]), 20)

    def test_other_looms(self):
        pairs = [self.looks(chance_loom(seed)) for seed in range(150)]
        pairs += [self.looks(busy_loom(seed)) for seed in range(60)]
        self.assertGreater(len([pair for pair in pairs if pair[0] > 0]), 60)
        self.assertGreater(len([pair for pair in pairs if pair[1] > 0]), 40)

    def test_four_workers(self):
        for seed in range(60):
            loom = paired_loom(seed, most_workers=4)
            if len(all_states(loom)) <= 80:
                self.looks(loom)


class SeenTest(HandedTest):
    def test_the_first_state_is_an_end(self):
        for lean in (False, True):
            self.same(folded_seen(SMALLEST, lean), [first_of(SMALLEST)])
            self.same(folded_ends(SMALLEST, lean), [first_of(SMALLEST)])

    def test_the_order(self):
        told = [
            ((), (-1,), ((0, ()), (0, ()))),
            ((), (1,), ((0, ()), (1, ()))),
            ((), (-1,), ((0, ()), (2, ()))),
            ((), (0,), ((1, ()), (2, ()))),
            ((), (-1,), ((2, ()), (2, ()))),
        ]
        self.same(folded_seen(LOCKERS), told)
        self.same(folded_seen(LOCKERS, False), told)
        self.same(folded_seen(LOCKERS, lean=False), told)
        self.same(folded_seen(LOCKERS, True), told)

    def test_the_order_with_lean(self):
        places = [(0, 0), (0, 1), (1, 1), (0, 2), (1, 2), (2, 2)]
        self.same(folded_seen(idlers(2, 2)), [((), (), tuple((place, ()) for place in pair)) for pair in places])
        # Worker 0 of the folded state goes alone: so it is by turns one and the other of the real ones.
        places = [(0, 0), (0, 1), (1, 1), (1, 2), (2, 2)]
        told = [((), (), tuple((place, ()) for place in pair)) for pair in places]
        self.same(folded_seen(idlers(2, 2), True), told)
        self.same(folded_seen(idlers(2, 2), lean=True), told)

    def test_where_none_are_alike_all_is_as_without(self):
        for loom in [loom_with([("get", "a", "x")], [("put", "x", ONE), IDLE], [IDLE]), crowd(2, 3, 4), idlers(1, 2, 3),
                     loom_with(*[[("take", "l"), ("give", "l")]] * 2)]:
            self.same(folded_seen(loom), seen(loom))
            self.same(folded_ends(loom), ends(loom))
            self.same(folded_seen(loom, True), lean_seen(loom))
            self.same(folded_ends(loom, True), lean_ends(loom))

    def test_each_once_and_folded(self):
        for loom in [ORDINARY, RACE, CROSSING, ADDERS]:
            for lean in (False, True):
                states = folded_seen(loom, lean)
                self.assertEqual(len(states), len(set(states)))
                self.assertEqual([fold(loom, state)[0] for state in states], states)
                self.assertEqual(states[0], first_of(loom))

    def test_six_alike(self):
        # As many as there are ways to share six workers out among three places.
        self.assertEqual(len(folded_seen(idlers(2, 2, 2, 2, 2, 2))), 28)
        self.assertEqual(len(folded_seen(idlers(2, 2, 2, 2, 2, 2), True)), 13)


class EndsTest(HandedTest):
    def test_folded_states_of_the_ends(self):
        for loom in [ORDINARY, RACE, CROSSING, ADDERS, LOCKERS] + [paired_loom(seed, 4) for seed in range(300, 330)]:
            states = all_states(loom)
            wanted = sorted({folded_told(loom, state) for state in states if able_in(loom, state) == []})
            if len(states) <= 1500:
                self.same(sorted({fold(loom, end)[0] for end in ends(loom)}), wanted)
            self.same(folded_ends(loom), wanted)
            self.same(folded_ends(loom, False), wanted)
            self.same(folded_ends(loom, lean=True), wanted)

    def test_rising_as_tuples_are_ordered(self):
        # By their spots they would come the other way round; but the boxes count first.
        loom = loom_of(*with_part(loom_with([("get", "a", "x"), ("put", "x", ("minus", ("own", "a"), ONE))], locks=()),
                                  workers=(0, 0)))
        wanted = [((3, 0), (), ((2, (0, 1)), (2, (4, 1)))), ((4, 0), (), ((2, (0, 1)), (2, (0, 1))))]
        for lean in (False, True):
            self.same(folded_ends(loom, lean), wanted)

    def test_rising_where_the_spots_would_tell_another_order(self):
        steps = [("take", "l"), ("get", "a", "x"), ("put", "x", ONE)]
        loom = loom_of(*with_part(loom_with(steps, [("take", "l"), ("add", "x", ("number", 2))]), workers=(0, 0, 1)))
        for lean in (False, True):
            told = folded_ends(loom, lean)
            self.assertEqual(len(told), 2)
            self.same(told, sorted(told))
            self.assertNotEqual(told, sorted(told, key=lambda state: state[2]))


class BoundTest(HandedTest):
    def calls(self, loom, state, *lean):
        self.refused(TooMany, folded_seen, loom, *lean)
        self.refused(TooMany, folded_ends, loom, *lean)
        self.refused(TooMany, folded_way, loom, state, *lean)

    def test_just_1500(self):
        states = folded_seen(JUST_ENOUGH)
        self.assertEqual(len(states), 1500)
        self.assertEqual(len(folded_ends(JUST_ENOUGH)), 1)
        self.same(folded_way(JUST_ENOUGH, states[0]), [])
        self.assertEqual(fold(JUST_ENOUGH, woven(JUST_ENOUGH, folded_way(JUST_ENOUGH, states[-1])))[0], states[-1])

    def test_just_1500_with_lean(self):
        for lean in (False, True):
            states = folded_seen(LEAN_JUST_ENOUGH, lean)
            self.assertEqual(len(states), 1500)
            self.assertEqual(len(folded_ends(LEAN_JUST_ENOUGH, lean)), 1)
            way = folded_way(LEAN_JUST_ENOUGH, states[-1], lean)
            self.assertEqual(fold(LEAN_JUST_ENOUGH, woven(LEAN_JUST_ENOUGH, way))[0], states[-1])

    def test_1501(self):
        first = first_of(ONE_TOO_MANY)
        last = woven(ONE_TOO_MANY, [0] * 13 + [1, 2, 3])
        unfolded = woven(ONE_TOO_MANY, [0] * 13 + [2])
        elsewhere = ((0,), (), ((0, ()), (1, ()), (1, ()), (1, ())))
        for state in [first, last, unfolded, elsewhere]:
            self.calls(ONE_TOO_MANY, state)
            self.calls(ONE_TOO_MANY, state, False)

    def test_1501_with_lean(self):
        first = first_of(LEAN_ONE_TOO_MANY)
        last = woven(LEAN_ONE_TOO_MANY, [0] * 13 + [1, 2, 3])
        elsewhere = ((0, 4), (-1, -1), first[2])
        for state in [first, last, elsewhere]:
            self.calls(LEAN_ONE_TOO_MANY, state, True)
            self.calls(LEAN_ONE_TOO_MANY, state)

    def test_far_more(self):
        program = ("p", (("a", 0),), (("get", "a", "x"), ("put", "x", ("plus", ("own", "a"), ONE))) * 15)
        loom = loom_of(16, (("x", 0),), (), (program,), (0,) * 6, ())
        self.calls(loom, first_of(loom))
        self.calls(loom, first_of(loom), True)

    def test_too_many_for_the_plain_looking_alone(self):
        loom = loom_of(*idlers(10, 10, 10, 10))
        self.refused(TooMany, seen, loom)
        self.assertEqual(len(folded_seen(loom)), 1001)
        self.same(folded_ends(loom), [((), (), ((10, ()),) * 4)])
        self.refused(TooMany, seen, JUST_ENOUGH)
        # And here for the lean one too.
        self.refused(TooMany, seen, LEAN_JUST_ENOUGH)
        self.refused(TooMany, lean_seen, LEAN_JUST_ENOUGH)

    def test_too_many_for_the_folded_but_not_with_lean(self):
        for loom in [loom_of(*idlers(*[30] * 6)), GREATEST]:
            self.calls(loom, first_of(loom))
            self.calls(loom, first_of(loom), False)
            self.assertEqual(len(folded_seen(loom, True)), 181)
            end = folded_ends(loom, True)[0]
            self.assertEqual(woven(loom, folded_way(loom, end, True)), end)
        self.calls(ONE_TOO_MANY, first_of(ONE_TOO_MANY))
        self.assertLess(len(folded_seen(ONE_TOO_MANY, True)), 100)

    def test_a_refusal_leaves_nothing_behind(self):
        before = folded_seen(RACE)
        self.refused(TooMany, folded_seen, ONE_TOO_MANY)
        self.same(folded_seen(RACE), before)


class WayTest(HandedTest):
    def test_the_first_state(self):
        for loom in [SMALLEST, ORDINARY, RACE, LOCKERS, LEAN_JUST_ENOUGH]:
            for lean in (False, True):
                self.same(folded_way(loom, first_of(loom), lean), [])
            self.same(folded_way(loom, first_of(loom)), [])

    def test_a_real_one_where_the_workers_are_turned_round(self):
        # Folded, worker 0 goes each time; really each of the three goes in turn.
        loom = loom_of(*idlers(1, 1, 1))
        end = folded_ends(loom, True)[0]
        for lean in (False, True):
            way = folded_way(loom, end, lean)
            self.assertEqual(sorted(way), [0, 1, 2])
        # Who holds the lock gives it: the folded state tells another worker as its holder.
        for state in folded_seen(LOCKERS):
            self.assertEqual(fold(LOCKERS, woven(LOCKERS, folded_way(LOCKERS, state)))[0], state)

    def test_to_each_state_and_each_end(self):
        for loom in [ORDINARY, RACE, CROSSING, ADDERS, loom_of(*idlers(3, 3, 3, 3))]:
            for lean in (False, True):
                for state in folded_seen(loom, lean) + folded_ends(loom, lean):
                    way = folded_way(loom, state, lean)
                    self.assertEqual(fold(loom, woven(loom, way))[0], state)

    def test_the_same_one_each_time(self):
        for loom in [RACE, CROSSING] + [paired_loom(seed) for seed in range(20)]:
            for state in folded_seen(loom):
                way = folded_way(loom, state)
                self.same(folded_way(loom, state), way)
                self.same(folded_way(loom, state, False), way)
                self.same(folded_way(loom, state, lean=False), way)
                self.same(folded_way(loom_of(*copy.deepcopy(loom)), copy.deepcopy(state)), way)
            for state in folded_seen(loom, True):
                self.same(folded_way(loom, state, True), folded_way(loom, state, lean=True))

    def test_none_of_what_is_not_folded(self):
        for loom in [RACE, CROSSING, LOCKERS]:
            others = [state for state in all_states(loom) if folded_told(loom, state) != state]
            self.assertGreater(len(others), 2)
            for state in others:
                self.assertIsNone(folded_way(loom, state))
                self.assertIsNone(folded_way(loom, state, True))

    def test_none_of_what_is_not_come_to_with_lean(self):
        loom = loom_of(*idlers(2, 2))
        state = ((), (), ((0, ()), (2, ())))
        self.assertEqual(fold(loom, woven(loom, folded_way(loom, state)))[0], state)
        self.assertIsNone(folded_way(loom, state, True))
        for loom in [ADDERS, CROSSING] + [paired_loom(seed) for seed in range(40)]:
            lean = folded_seen(loom, True)
            for state in folded_seen(loom):
                self.assertEqual(folded_way(loom, state, True) is None, state not in lean)

    def test_none_of_what_nothing_comes_to(self):
        first = first_of(RACE)
        for state in [((4, 0), first[1], first[2]), (first[0], (0, -1), first[2]), ((0, 9), first[1], first[2]),
                      (first[0], first[1], ((-1, (0, 1)),) * 3), (first[0], first[1], ((2, (4, 4)),) * 3)]:
            for lean in (False, True):
                self.assertIsNone(folded_way(RACE, state, lean))
            self.assertIsNone(folded_way(RACE, state))


class OwnTest(HandedTest):
    def test_lists_told_are_the_asker_s_own(self):
        end = folded_ends(RACE)[0]
        for lean in [(), (False,), (True,)]:
            self.own(folded_seen, RACE, *lean)
            self.own(folded_ends, RACE, *lean)
            self.own(folded_way, RACE, end, *lean)
            self.own(folded_way, RACE, first_of(RACE), *lean)
