import copy
import unittest

from loomlook.errors import TooMany
from loomlook.exchanging import settled
from loomlook.looking import ends, many
from loomlook.looms import loom_of
from loomlook.once import each_once
from loomlook.weaving import woven
from tests.helper import GREATEST, ORDINARY, SMALLEST, able_in, all_alike, all_weavings, busy_loom, chance_loom
from tests.helper import idlers, kinds_of, loom_with

ONE = ("number", 1)
ZERO = ("number", 0)

RACE = loom_with(*[[("get", "a", "x"), ("put", "x", ("plus", ("own", "a"), ONE))]] * 2)

X = ("put", "x", ONE)
Y = ("put", "y", ONE)
GET_X = ("get", "a", "x")
GET_Y = ("get", "a", "y")

# One put of x has 20 places among nineteen others, one of y likewise.
JUST_ENOUGH = loom_with([X], [X] * 19, [Y], [Y] * 19)

# The same behind a start: worker 0 takes the lock and lets all go; where worker 2 takes it first, nobody goes.
GO = ("wait", "go", ONE)
ONE_TOO_MANY = loom_with([("take", "l"), ("put", "go", ONE), ("give", "l"), X], [GO] + [X] * 19,
                         [("take", "l"), GO, Y], [GO] + [Y] * 19, boxes=(("x", 0), ("y", 0), ("go", 0)))


class OnceTest(unittest.TestCase):
    def same(self, one, other):
        self.assertEqual(kinds_of(one), kinds_of(other))

    def too_many(self, loom):
        kept = copy.deepcopy(loom)
        try:
            each_once(loom)
        except ValueError as e:
            self.assertIs(type(e), TooMany)
        else:
            self.fail("not refused")
        self.assertEqual(loom, kept)

    def are_settled(self, loom, weavings):
        """They rise, and each is a settled weaving to an end."""
        self.assertEqual(weavings, sorted(weavings))
        self.assertEqual(len({tuple(weaving) for weaving in weavings}), len(weavings))
        for weaving in weavings:
            self.assertEqual(settled(loom, weaving), weaving)
            self.assertEqual(able_in(loom, woven(loom, weaving)), [])


class SmallLoomsTest(OnceTest):
    def once(self, loom):
        """All that is told is as all weavings to ends tell it, with all that are alike gone through by exchanges."""
        loom = loom_of(*loom)
        kept = copy.deepcopy(loom)
        known = set()
        least = []
        for weaving, state in all_weavings(loom):
            if able_in(loom, state) == [] and tuple(weaving) not in known:
                others = all_alike(loom, weaving)
                known.update(tuple(other) for other in others)
                least.append(min(others))
        if len(least) > 400:
            self.too_many(loom)
        else:
            weavings = each_once(loom)
            self.same(weavings, sorted(least))
            self.same(sorted({woven(loom, weaving) for weaving in weavings}), ends(loom))
        self.assertEqual(loom, kept)
        return len(known), len(least)

    def test_looms_with_something_told_of_them(self):
        for loom in [SMALLEST, RACE, loom_with([("take", "l"), ("take", "m")], [("take", "m"), ("take", "l")]),
                     loom_with([("check", ZERO)], [("give", "l")], [("wait", "x", ONE)]),
                     loom_with([("wait", "x", ONE), Y], [X, ("put", "x", ZERO)], [GET_X, GET_Y]),
                     loom_with([("unless", ("own", "a"), 2), ("skip", 1), X, ("skip", 0)], [GET_X] * 2),
                     # Adds don't concern one another, but each concerns the wait, which must be done at just two.
                     loom_with([("add", "x", ONE)] * 2, [("add", "x", ONE)] * 2, [("wait", "x", ("number", 2))])]:
            self.once(loom)

    def test_a_sleeper_is_woken_by_one_who_slept_or_waited(self):
        # Behind worker 3's step worker 0's get must be done behind worker 1's put, and that one has to be woken itself.
        for loom in [loom_with([GET_X], [GET_Y, X], [("skip", 0)], [Y]),
                     loom_with([GET_X], [("wait", "y", ONE), X], [("skip", 0)], [Y]),
                     loom_with([GET_X, Y], [GET_Y, X], [X], [Y]),
                     loom_with([("take", "l"), X], [GET_X, ("take", "l")], [("give", "m"), ("take", "l")])]:
            self.once(loom)

    def test_many_looms(self):
        fewer = 0
        for seed in range(500):
            weavings, least = self.once(chance_loom(seed))
            fewer += 1 < least < weavings
        self.assertGreater(fewer, 40)

    def test_busy_looms(self):
        fewer = 0
        for seed in range(300):
            weavings, least = self.once(busy_loom(seed))
            fewer += 1 < least < weavings
        self.assertGreater(fewer, 90)


class EachOnceTest(OnceTest):
    def test_the_first_state_is_an_end(self):
        self.same(each_once(SMALLEST), [[]])
        self.same(each_once(loom_with([("wait", "x", ONE)], [])), [[]])
        self.same(each_once(idlers(0, 0, 0)), [[]])

    def test_a_race(self):
        self.same(each_once(RACE), [[0, 0, 1, 1], [0, 1, 0, 1], [0, 1, 1, 0], [1, 1, 0, 0]])

    def test_rising(self):
        puts = loom_with([X], [X], [X])
        self.same(each_once(puts), [[0, 1, 2], [0, 2, 1], [1, 0, 2], [1, 2, 0], [2, 0, 1], [2, 1, 0]])
        unlike = loom_with([("get", "a", "x"), ("unless", ("own", "a"), 1), ("skip", 0)], [X])
        self.same(each_once(unlike), [[0, 0, 1], [1, 0, 0, 0]])

    def test_an_ordinary_loom(self):
        weavings = each_once(ORDINARY)
        self.are_settled(ORDINARY, weavings)
        self.assertEqual(sorted({woven(ORDINARY, weaving) for weaving in weavings}), ends(ORDINARY))

    def test_one_of_some_hundred_thousands(self):
        loom = loom_of(*loom_with([("add", "x", ONE)] * 5, [("add", "y", ONE)] * 5, [("set", "a", ONE)] * 4))
        self.assertEqual(many(loom), 252252)
        self.same(each_once(loom), [[0] * 5 + [1] * 5 + [2] * 4])

    def test_few_of_some_hundred_thousands(self):
        last = ("put", "z", ("number", 2))
        loom = loom_of(*loom_with([X] * 4 + [last], [Y] * 4 + [last], [("skip", 0)] * 3 + [last],
                                  boxes=(("x", 0), ("y", 0), ("z", 0))))
        self.assertEqual(many(loom), 252252)
        weavings = each_once(loom)
        self.are_settled(loom, weavings)
        self.assertEqual(len(weavings), 6)
        # Whoever's last step has its turn: all that it needs is done ahead of the greater workers' steps.
        self.same(weavings[0], [0] * 5 + [1] * 5 + [2] * 4)
        self.same(weavings[-1], [0] * 4 + [1] * 4 + [2] * 4 + [1, 0])

    def test_the_longest_weavings(self):
        line = [worker for worker in range(6) for turn in range(30)]
        self.same(each_once(loom_of(*idlers(*[30] * 6))), [line])
        self.same(each_once(GREATEST), [line])
        loom = loom_of(5, (("x", 0),), (), (("p", (("a", 0),), (GET_X,) * 30),), (0,) * 6, ())
        self.same(each_once(loom), [line])

    def test_steps_that_are_never_done(self):
        # Each may still write what the others read, as far as its program tells, but nobody ever does.
        for guard in [("skip", 1), ("unless", ("own", "a"), 1)]:
            steps = (GET_X,) * 10 + (guard, X)
            loom = loom_of(2, (("x", 0),), (), (("p", (("a", 0),), steps),), (0,) * 3, ())
            self.same(each_once(loom), [[0] * 11 + [1] * 11 + [2] * 11])
        # Where the gets don't come first, all orders of the puts lead to nothing, whatever many gets were done by then.
        gets, never = (GET_X,) * 20, (("skip", 1), X)
        programs = (("p", (("a", 0),), gets), ("q", (), (Y,) * 5), ("r", (), never))
        loom = loom_of(2, (("x", 0), ("y", 0)), (), programs, (0, 0, 1, 1, 2), ())
        weavings = each_once(loom)
        self.are_settled(loom, weavings)
        self.assertEqual(len(weavings), 252)
        self.assertEqual({tuple(weaving[:40]) for weaving in weavings}, {(0,) * 20 + (1,) * 20})


class BoundTest(OnceTest):
    def test_just_400(self):
        for loom in [JUST_ENOUGH, loom_with([X] * 19, [Y] * 19, [Y], [X])]:
            loom = loom_of(*loom)
            weavings = each_once(loom)
            self.assertEqual(len(weavings), 400)
            self.are_settled(loom, weavings)

    def test_401(self):
        loom = loom_of(*ONE_TOO_MANY)
        self.too_many(loom)
        self.too_many(loom)
        # Without the choice of who takes the lock first there are just 400.
        fewer = loom_with(*[[step for step in program[2] if step[1] != "l"] for program in loom[3]], boxes=loom[1])
        self.assertEqual(len(each_once(loom_of(*fewer))), 400)

    def test_far_more(self):
        for steps in [[X] * 30, [GET_X, X] * 15, [X, Y] * 15, [("take", "l"), ("give", "l")] * 15]:
            self.too_many(loom_of(5, (("x", 0), ("y", 0)), ("l",), (("p", (("a", 0),), tuple(steps)),), (0,) * 6, ()))
        self.too_many(loom_of(*loom_with([X] * 6, [X] * 6)))
        self.too_many(loom_of(*loom_with([X], [X] * 19, [Y], [Y] * 20)))

    def test_as_many_by_one_choice_after_another(self):
        # How many weavings there are where all steps concern one another.
        self.assertEqual(len(each_once(loom_of(*loom_with([X] * 4, [X] * 6)))), 210)
        self.assertEqual(len(each_once(loom_of(*loom_with([X] * 2, [X] * 26)))), 378)
        self.too_many(loom_of(*loom_with([X] * 2, [X] * 27)))

    def test_a_refusal_leaves_nothing_behind(self):
        before = each_once(RACE)
        self.too_many(ONE_TOO_MANY)
        self.same(each_once(RACE), before)


class OwnTest(OnceTest):
    def test_lists_told_are_the_asker_s_own(self):
        loom = loom_of(*RACE)
        first = each_once(loom)
        kept = copy.deepcopy(first)
        first[0].append(None)
        first[1].clear()
        first.pop()
        self.same(each_once(loom), kept)
        later = each_once(loom)
        for weaving in each_once(loom):
            weaving.clear()
        self.same(later, kept)
        empty = each_once(SMALLEST)
        empty[0].append(0)
        self.same(each_once(SMALLEST), [[]])

    def test_no_two_weavings_are_one_list(self):
        weavings = each_once(RACE)
        for weaving in weavings:
            weaving.append(9)
        self.assertEqual([weaving.count(9) for weaving in weavings], [1] * 4)
