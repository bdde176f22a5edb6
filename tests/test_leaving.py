import copy
import itertools
import unittest

from loomlook.errors import NoMove
from loomlook.leaving import enough, kept, may_still
from loomlook.looms import loom_of
from loomlook.weaving import woven
from tests.helper import GREATEST, ORDINARY, SMALLEST, STEPS, able_in, all_states, busy_loom, chance_loom, enough_told
from tests.helper import first_of, idlers, kept_told, kinds_of, left_told, loom_with, strange_things

ONE = ("number", 1)
ZERO = ("number", 0)

RACE = loom_with(*[[("get", "a", "x"), ("put", "x", ("plus", ("own", "a"), ONE))]] * 2)

X = ("put", "x", ONE)
Y = ("put", "y", ONE)
GET_X = ("get", "a", "x")
GET_Y = ("get", "a", "y")
IDLE = ("skip", 0)
BREAK = ("check", ZERO)

# Some hundred small looms: those of the first kind mostly break or get stuck, those of the second mostly don't.
SMALL_LOOMS = [chance_loom(seed) for seed in range(250)]
SMALL_LOOMS += [busy_loom(seed, most_workers=4, most_steps=2) for seed in range(100)]


class LeavingTest(unittest.TestCase):
    def same(self, one, other):
        self.assertEqual(kinds_of(one), kinds_of(other))

    def no_move(self, call, *handed):
        try:
            call(*handed)
        except ValueError as e:
            self.assertIs(type(e), NoMove)
        else:
            self.fail("not refused")


class MayStillTest(LeavingTest):
    def test_at_the_first_place(self):
        first = first_of(ORDINARY)
        self.same(may_still(ORDINARY, first, 0), list(STEPS))
        self.same(may_still(ORDINARY, first, 1), list(ORDINARY[3][1][2]))
        self.same(may_still(ORDINARY, first, 2), list(STEPS))
        self.same(may_still(SMALLEST, first_of(SMALLEST), 0), [])

    def test_in_the_midst_and_at_the_end(self):
        for many in range(8):
            state = woven(ORDINARY, [0] * many)
            self.same(may_still(ORDINARY, state, 0), list(STEPS[many:]))
            self.same(may_still(ORDINARY, state, 2), list(STEPS))

    def test_of_one_that_broke(self):
        loom = loom_with([IDLE, BREAK, X, Y], [("give", "l"), X])
        self.same(may_still(loom, woven(loom, [0]), 0), [BREAK, X, Y])
        self.same(may_still(loom, woven(loom, [0, 0]), 0), [])
        self.same(may_still(loom, woven(loom, [0, 0]), 1), [("give", "l"), X])
        self.same(may_still(loom, woven(loom, [1]), 1), [])

    def test_of_one_that_waits(self):
        loom = loom_with([("take", "l"), X], [("take", "l"), Y], [("wait", "x", ("number", 3)), IDLE])
        state = woven(loom, [0])
        self.same(may_still(loom, state, 1), [("take", "l"), Y])
        self.same(may_still(loom, state, 2), [("wait", "x", ("number", 3)), IDLE])

    def test_steps_that_would_be_passed_over(self):
        steps = [("skip", 2), X, Y, ("unless", ZERO, 1), X, IDLE]
        loom = loom_with(steps)
        self.same(may_still(loom, first_of(loom), 0), steps)
        self.same(may_still(loom, woven(loom, [0]), 0), steps[3:])
        self.same(may_still(loom, woven(loom, [0, 0]), 0), steps[5:])
        self.same(may_still(loom, woven(loom, [0, 0, 0]), 0), [])

    def test_every_state_of_many_looms(self):
        for loom in SMALL_LOOMS:
            loom = loom_of(*loom)
            kept_loom = copy.deepcopy(loom)
            for state in all_states(loom)[:60]:
                for worker in range(len(loom[4])):
                    self.same(may_still(loom, state, worker), left_told(loom, state, worker))
            self.assertEqual(loom, kept_loom)

    def test_what_is_no_worker_s_number(self):
        for loom in [SMALLEST, ORDINARY, RACE, GREATEST]:
            for worker in strange_things() + [len(loom[4]), -len(loom[4]), 10 ** 5000]:
                if type(worker) is not int or worker not in range(len(loom[4])):
                    self.no_move(may_still, loom, first_of(loom), worker)


class EnoughTest(LeavingTest):
    def enough(self, loom, weaving, workers, answer):
        state = woven(loom, weaving)
        for each in itertools.permutations(workers):
            handed = list(each)
            self.assertIs(enough(loom_of(*loom), state, handed), answer, workers)
            self.assertEqual(handed, list(each))
        self.assertIs(enough_told(loom, state, workers), answer)

    def test_of_none(self):
        for loom in [SMALLEST, ORDINARY, RACE, idlers(1, 1)]:
            self.assertIs(enough(loom, first_of(loom), []), False)

    def test_of_all(self):
        self.enough(RACE, [], [0, 1], True)
        self.enough(RACE, [0, 0], [0, 1], True)
        self.enough(idlers(1, 2, 3), [], [0, 1, 2], True)
        self.enough(SMALLEST, [], [0], False)

    def test_in_an_end(self):
        for loom, weaving in [(RACE, [0, 0, 1, 1]), (idlers(1, 1), [0, 1]), (loom_with([BREAK], [IDLE]), [0, 1]),
                              (loom_with([("wait", "x", ONE)], []), [])]:
            for workers in [[], [0], [1], [0, 1]]:
                self.enough(loom, weaving, workers, False)

    def test_of_one(self):
        # Both still put what both get.
        self.enough(RACE, [], [0], False)
        self.enough(RACE, [], [1], False)
        # Worker 1 has ended.
        self.enough(RACE, [1, 1], [0], True)
        self.enough(RACE, [1, 1], [1], False)
        self.enough(loom_with([GET_X], [GET_X]), [], [0], True)
        self.enough(loom_with([("add", "x", ONE)], [("add", "x", ONE)]), [], [0], True)
        self.enough(loom_with([X], [GET_X]), [], [0], False)
        self.enough(loom_with([X], [Y]), [], [0], True)
        self.enough(loom_with([("take", "l")], [("take", "m"), ("give", "m")]), [], [0], True)
        self.enough(loom_with([("take", "l")], [("take", "m"), ("give", "l")]), [], [0], False)

    def test_only_the_next_step_of_the_set_counts(self):
        self.enough(loom_with([IDLE, X], [X]), [], [0], True)
        self.enough(loom_with([IDLE, X], [X]), [0], [0], False)
        self.enough(loom_with([IDLE, X], [X]), [], [1], False)

    def test_all_that_the_others_may_still_do_counts(self):
        self.enough(loom_with([GET_X], [IDLE] * 5 + [X]), [], [0], False)
        self.enough(loom_with([GET_X], [IDLE] * 5 + [Y]), [], [0], True)
        self.enough(loom_with([GET_X], [("skip", 1), X, IDLE]), [], [0], False)
        self.enough(loom_with([GET_X], [("skip", 1), X, IDLE]), [1], [0], True)
        self.enough(loom_with([GET_X], [X, IDLE]), [1], [0], True)
        # Worker 1 waits, and nobody will ever let it go on: still it may.
        self.enough(loom_with([GET_X], [("wait", "y", ONE), X]), [], [0], False)

    def test_others_that_ended_or_broke(self):
        self.enough(loom_with([GET_X], [BREAK, X]), [], [0], False)
        self.enough(loom_with([GET_X], [BREAK, X]), [1], [0], True)
        self.enough(loom_with([GET_X], [X]), [1], [0], True)
        self.enough(loom_with([GET_X], [BREAK, X], [X]), [1], [0], False)
        self.enough(loom_with([GET_X], [BREAK, X], [X]), [1, 2], [0], True)

    def test_ended_or_broken_ones_of_the_set(self):
        # Who has no next step adds nothing that others could concern.
        loom = loom_with([IDLE], [BREAK, X], [X, X], [])
        for workers in [[0], [0, 1], [0, 3], [0, 1, 3]]:
            self.enough(loom, [1], workers, True)
        for workers in [[1], [3], [1, 3]]:
            self.enough(loom, [1], workers, False)

    def test_no_able_worker(self):
        loom = loom_with([("wait", "x", ONE)], [("wait", "y", ONE)], [IDLE])
        for workers in [[0], [1], [0, 1]]:
            self.enough(loom, [], workers, False)
        self.enough(loom, [], [2], True)
        self.enough(loom, [], [0, 2], True)
        self.enough(loom, [], [0, 1, 2], True)

    def test_one_of_the_set_that_waits(self):
        # Worker 1 waits for what worker 2 may still put.
        loom = loom_with([IDLE], [("wait", "x", ONE)], [IDLE, X])
        self.enough(loom, [], [0], True)
        self.enough(loom, [], [0, 1], False)
        self.enough(loom, [], [0, 1, 2], True)
        self.enough(loom, [], [1, 2], True)
        locked = loom_with([IDLE], [("take", "l")], [("take", "l"), IDLE, ("give", "l")])
        self.enough(locked, [2], [0], True)
        self.enough(locked, [2], [0, 1], False)
        self.enough(locked, [2], [0, 1, 2], True)
        self.enough(locked, [2, 2, 2], [0, 1], True)

    def test_every_set_in_every_state_of_many_looms(self):
        met = {True: 0, False: 0}
        for loom in SMALL_LOOMS:
            loom = loom_of(*loom)
            everyone = range(len(loom[4]))
            for state in all_states(loom)[:25]:
                for many in range(len(everyone) + 1):
                    for workers in itertools.combinations(everyone, many):
                        answer = enough_told(loom, state, workers)
                        self.assertIs(enough(loom, state, list(workers)), answer)
                        self.assertIs(enough(loom, state, list(reversed(workers))), answer)
                        met[answer] += 1
        self.assertGreater(min(met.values()), 1000)

    def test_what_is_no_worker_s_number(self):
        for worker in strange_things() + [10 ** 5000]:
            if type(worker) is not int or worker not in (0, 1):
                for workers in [[worker], [worker, 0], [0, worker], [0, worker, 1]]:
                    self.no_move(enough, RACE, first_of(RACE), workers)


class KeptTest(LeavingTest):
    def kept(self, loom, weaving, pair):
        loom = loom_of(*loom)
        state = woven(loom, weaving)
        self.same(kept(loom, state), pair)
        self.same(kept_told(loom, state), pair)

    def test_in_an_end(self):
        self.kept(SMALLEST, [], ([], []))
        self.kept(RACE, [0, 0, 1, 1], ([], []))
        self.kept(loom_with([("wait", "x", ONE)], []), [], ([], []))
        self.kept(loom_with([BREAK, X], [GET_X]), [0, 1], ([], []))

    def test_one_alone(self):
        self.kept(idlers(1, 2, 3), [], ([0], [0]))
        self.kept(idlers(1, 2, 3), [0], ([1], [1]))
        self.kept(idlers(1, 2, 3), [1, 1, 2, 0], ([2], [2]))
        self.kept(loom_with([X, GET_X], [Y, GET_Y]), [], ([0], [0]))

    def test_all(self):
        self.kept(RACE, [], ([0, 1], [0, 1]))
        self.kept(RACE, [0], ([0, 1], [0, 1]))
        self.kept(RACE, [0, 0], ([1], [1]))

    def test_the_fewest_able_ones(self):
        # With worker 0 goes worker 1, with worker 2 nobody.
        self.kept(loom_with([X], [X], [Y]), [], ([2], [2]))
        self.kept(loom_with([X], [X], [X], [IDLE]), [], ([3], [3]))
        # By able ones, not by all: both sets have two workers, of which in the one only one is able.
        loom = loom_with([Y], [Y], [X], [("wait", "x", ("number", 3)), X])
        self.kept(loom, [], ([2, 3], [2]))
        # A greater set with fewer able ones is taken too.
        loom = loom_with([X], [X], [Y, Y], [("wait", "y", ("number", 3)), Y])
        loom = loom[:4] + ((0, 1, 2, 3, 3),) + loom[5:]
        self.kept(loom, [], ([2, 3, 4], [2]))

    def test_of_several_the_first(self):
        self.kept(loom_with([X], [X], [Y], [Y]), [], ([0, 1], [0, 1]))
        self.kept(loom_with([X], [Y], [X], [Y]), [], ([0, 2], [0, 2]))
        # Both sets have one able worker; the one that comes of the lesser able worker is the greater set.
        loom = loom_with([X], [IDLE], [("wait", "x", ("number", 3)), X])
        self.kept(loom, [], ([0, 2], [0]))
        loom = loom_with([("wait", "x", ("number", 3)), X], [X], [IDLE])
        self.kept(loom, [], ([0, 1], [1]))

    def test_taken_in_through_one_that_waits(self):
        # With worker 0 goes worker 1, as it may still put what the first one gets; and as worker 1 waits for what
        # worker 2 may still put, so does that one. With worker 2 goes worker 0 only where it may still get what is put.
        loom = loom_with([GET_X], [("wait", "y", ONE), X], [Y])
        self.kept(loom, [], ([1, 2], [2]))
        loom = loom_with([GET_X, GET_Y], [("wait", "y", ONE), X], [Y])
        self.kept(loom, [], ([0, 1, 2], [0, 2]))
        # Worker 2's own step is apart from all.
        loom = loom_with([GET_X, GET_Y], [("wait", "y", ONE), X], [IDLE, Y])
        self.kept(loom, [], ([2], [2]))
        self.kept(loom, [2], ([0, 1, 2], [0, 2]))

    def test_taken_in_one_behind_the_other(self):
        # Each may still put what the one ahead of it gets first.
        boxes = (("w", 0), ("x", 0), ("y", 0), ("z", 0))
        get_w, put_w = ("get", "a", "w"), ("put", "w", ONE)
        loom = loom_with([get_w], [GET_X, put_w], [GET_Y, X], [("put", "z", ONE), Y], boxes=boxes)
        self.kept(loom, [], ([3], [3]))
        # In a ring there is no way out of it.
        loom = loom_with([get_w], [GET_X, put_w], [GET_Y, X], [get_w, Y], boxes=boxes)
        self.kept(loom, [], ([1, 2, 3], [1, 2, 3]))
        loom = loom_with([get_w, X], [GET_X, put_w], [GET_Y, X], [get_w, Y], boxes=boxes)
        self.kept(loom, [], ([0, 1, 2, 3], [0, 1, 2, 3]))

    def test_the_set_begins_with_able_workers_alone(self):
        # Worker 0 waits and nobody may still let it go on: it is in no set.
        self.kept(loom_with([("wait", "y", ONE)], [X], [X]), [], ([1, 2], [1, 2]))

    def test_broken_and_ended_ones(self):
        loom = loom_with([BREAK, X], [GET_X], [X, X])
        self.kept(loom, [], ([0], [0]))
        self.kept(loom, [0], ([1, 2], [1, 2]))
        self.kept(loom, [0, 2, 2], ([1], [1]))
        self.kept(loom, [0, 1], ([2], [2]))

    def test_every_state_of_many_looms(self):
        met = set()
        for loom in SMALL_LOOMS:
            loom = loom_of(*loom)
            kept_loom = copy.deepcopy(loom)
            for state in all_states(loom)[:120]:
                workers, going = kept(loom, state)
                self.same((workers, going), kept_told(loom, state))
                self.assertEqual((workers == [], going == []), (able_in(loom, state) == [],) * 2)
                met.add((len(workers), len(going), len(able_in(loom, state))))
            self.assertEqual(loom, kept_loom)
        self.assertLessEqual({(0, 0, 0), (1, 1, 1), (1, 1, 2), (1, 1, 3), (2, 1, 1), (2, 2, 2), (2, 2, 3), (3, 2, 2),
                              (3, 3, 3)}, met)

    def test_greatest(self):
        self.same(kept(GREATEST, first_of(GREATEST)), ([0], [0]))
        loom = loom_of(5, (("x", 0),), (), (("p", (), (X,) * 30),), (0,) * 6, ())
        self.same(kept(loom, first_of(loom)), ([0, 1, 2, 3, 4, 5], [0, 1, 2, 3, 4, 5]))


class OwnTest(LeavingTest):
    def test_the_two_lists_are_of_their_own(self):
        for loom in [SMALLEST, RACE, idlers(1)]:
            state = first_of(loom)
            workers, going = kept(loom, state)
            self.assertIsNot(workers, going)
            told = copy.deepcopy((workers, going))
            workers.append(9)
            self.assertEqual(going, told[1])
            going.clear()
            self.same(kept(loom, state), told)

    def test_what_was_told_stays(self):
        loom = loom_of(*RACE)
        state = first_of(loom)
        later = kept(loom, state)
        kept(loom, state)[0].clear()
        kept(loom, woven(loom, [0]))[1].append(None)
        enough(loom, state, [0])
        self.same(later, ([0, 1], [0, 1]))
        end = kept(SMALLEST, first_of(SMALLEST))
        end[0].append(0)
        end[1].append(0)
        self.same(kept(SMALLEST, first_of(SMALLEST)), ([], []))

    def test_what_may_still_be_done_is_the_asker_s_own(self):
        loom = loom_of(*RACE)
        for state in [first_of(loom), woven(loom, [0]), woven(loom, [0, 0])]:
            first = may_still(loom, state, 0)
            told = list(first)
            first.append(None)
            first.reverse()
            self.same(may_still(loom, state, 0), told)
        self.assertEqual(loom, RACE)
