import copy
import unittest

from loomlook.errors import NoMove
from loomlook.exchanging import alike, may_exchange, settled
from loomlook.looms import loom_of
from loomlook.weaving import woven
from tests.helper import GREATEST, ORDINARY, SMALLEST, able_in, all_alike, all_weavings, chance_loom, deep_list
from tests.helper import deep_tuple, exchanges_of, first_of, idlers, kinds_of, loom_with, stepped, strange_things

ONE = ("number", 1)
ZERO = ("number", 0)

RACE = loom_with(*[[("get", "a", "x"), ("put", "x", ("plus", ("own", "a"), ONE))]] * 2)

FAR_PLACES = [-1, -2, -3, -10 ** 30, 10 ** 30, -10 ** 5000, 10 ** 5000]

NO_WORKERS = [-1, -2, 10 ** 30, 10 ** 5000, True, False, None, "", "0", "a", [], [0], (0,), (), {}, {0: 0}]


def touching(box, lock):
    """A step of each word that touches something."""
    return [("get", "a", box), ("put", box, ONE), ("add", box, ONE), ("wait", box, ZERO), ("take", lock),
            ("give", lock)]


class ExchangingTest(unittest.TestCase):
    def same(self, one, other):
        self.assertEqual(kinds_of(one), kinds_of(other))

    def no_move(self, call, *handed):
        try:
            call(*handed)
        except ValueError as e:
            self.assertIs(type(e), NoMove)
        else:
            self.fail("not refused")


class MayExchangeTest(ExchangingTest):
    def two(self, step, other, answer, ahead=(), **changes):
        """Two workers' steps, one behind the other, behind some steps of the first one."""
        loom = loom_of(*loom_with(list(ahead) + [step], [other], **changes))
        weaving = [0] * len(ahead) + [0, 1]
        self.assertIs(may_exchange(loom, weaving, len(ahead)), answer, (step, other))
        self.assertEqual(weaving, [0] * len(ahead) + [0, 1])
        if answer:
            turned = [0] * len(ahead) + [1, 0]
            self.same(woven(loom, turned), woven(loom, weaving))

    def test_two_steps_of_one_worker(self):
        for step in [("skip", 0), ("set", "a", ONE), ("get", "a", "x"), ("add", "x", ONE), ("put", "x", ONE)]:
            loom = loom_with([step] * 3, [step])
            for k in [0, 1]:
                self.assertIs(may_exchange(loom, [0, 0, 0, 1], k), False)
        loom = loom_with([("get", "a", "x"), ("put", "y", ONE)])
        self.assertIs(may_exchange(loom, [0, 0], 0), False)

    def test_alike_workers_are_unlike(self):
        loom = (5, (("x", 0),), (), (("p", (("a", 0),), (("get", "a", "x"), ("put", "x", ONE))),), (0, 0), ())
        self.assertIs(may_exchange(loom, [0, 1, 0, 1], 0), True)
        self.assertIs(may_exchange(loom, [0, 1, 0, 1], 1), False)
        self.assertIs(may_exchange(loom, [0, 1, 0, 1], 2), False)

    def test_steps_that_touch_nothing(self):
        nothing = [("set", "a", ONE), ("check", ONE), ("check", ZERO), ("skip", 0), ("unless", ONE, 0),
                   ("unless", ZERO, 0)]
        for step in nothing:
            for other in nothing + touching("x", "l"):
                self.two(step, other, True)
                self.two(other, step, True)

    def test_unlike_names(self):
        for step in touching("x", "l"):
            for other in touching("y", "m"):
                self.two(step, other, True)
                self.two(other, step, True)

    def test_the_same_box(self):
        steps = {"read": [("get", "a", "x"), ("wait", "x", ZERO)], "write": [("put", "x", ZERO)],
                 "add": [("add", "x", ZERO)]}
        for way, ones in steps.items():
            for other_way, others in steps.items():
                for step in ones:
                    for other in others:
                        self.two(step, other, way == other_way and way != "write")

    def test_the_same_lock(self):
        self.two(("take", "l"), ("give", "l"), False)
        self.two(("give", "l"), ("take", "l"), False)
        self.two(("give", "l"), ("take", "l"), False, ahead=[("take", "l")])
        self.two(("give", "l"), ("give", "l"), False)
        self.two(("give", "l"), ("give", "l"), False, ahead=[("take", "l")])
        loom = loom_with([("take", "l"), ("give", "l")], [("take", "l"), ("give", "l")])
        self.assertEqual([may_exchange(loom, [0, 0, 1, 1], k) for k in range(3)], [False] * 3)

    def test_names_alone_count(self):
        # Both put the same number, so that either order comes to the same; still they write the same box.
        self.two(("put", "x", ZERO), ("put", "x", ZERO), False)
        owns = (("x", 0), ("y", 0))
        self.two(("set", "x", ONE), ("put", "x", ONE), True, owns=owns)
        self.two(("get", "x", "y"), ("put", "x", ONE), True, owns=owns)
        self.two(("get", "x", "y"), ("put", "y", ONE), False, owns=owns)

    def test_the_step_that_is_done_there_counts(self):
        # Of worker 0 the put is passed over.
        loom = loom_with([("skip", 1), ("put", "x", ONE), ("get", "a", "x")], [("get", "a", "x")] * 2)
        self.assertEqual([may_exchange(loom, [1, 0, 0, 1], k) for k in range(3)], [True, False, True])
        loom = loom_with([("get", "a", "y"), ("unless", ("own", "a"), 1), ("put", "x", ONE), ("get", "a", "x")],
                         [("get", "a", "x")], [("put", "y", ONE)])
        self.assertIs(may_exchange(loom, [0, 0, 0, 1, 2], 2), True)
        self.assertIs(may_exchange(loom, [2, 0, 0, 0, 1], 3), False)

    def test_no_such_places(self):
        for loom in [SMALLEST, ORDINARY, RACE, idlers(1, 1)]:
            for k in FAR_PLACES + [0, 1, 2]:
                self.assertIs(may_exchange(loom, [], k), False)
        for k in FAR_PLACES + [0, 1, 2]:
            self.assertIs(may_exchange(idlers(1, 1), [0], k), False)
        for weaving in [[0, 1], [0, 1, 0], [1, 0, 1, 0, 2]]:
            loom = idlers(2, 2, 1)
            self.assertIs(may_exchange(loom, weaving, len(weaving) - 2), True)
            for k in FAR_PLACES + [-len(weaving), 1 - len(weaving), len(weaving) - 1, len(weaving), len(weaving) + 1]:
                self.assertIs(may_exchange(loom, weaving, k), False, k)

    def test_every_place_of_the_weavings_of_many_looms(self):
        met = {True: 0, False: 0}
        for seed in range(150):
            loom = loom_of(*chance_loom(seed))
            kept = copy.deepcopy(loom)
            for weaving, state in list(all_weavings(loom))[-60:]:
                turned = dict(exchanges_of(loom, weaving))
                handed = list(weaving)
                for k in range(-2, len(weaving) + 2):
                    self.assertIs(may_exchange(loom, handed, k), k in turned)
                    met[k in turned] += 1
                for other in turned.values():
                    self.same(woven(loom, other), state)
                self.assertEqual(handed, weaving)
            self.assertEqual(loom, kept)
        self.assertGreater(min(met.values()), 500)


class SettledTest(ExchangingTest):
    def test_of_no_steps(self):
        for loom in [SMALLEST, ORDINARY, RACE, GREATEST]:
            handed = []
            self.same(settled(loom, handed), [])
            self.assertIsNot(settled(loom, handed), handed)

    def test_steps_that_touch_nothing(self):
        self.same(settled(idlers(2, 2), [1, 0, 1, 0]), [0, 0, 1, 1])
        self.same(settled(idlers(2, 2, 1), [2, 1, 0, 1, 0]), [0, 0, 1, 1, 2])
        self.same(settled(idlers(3, 3), [1, 1]), [1, 1])

    def test_steps_that_concern_one_another_stay(self):
        puts = loom_with(*[[("put", "x", ONE)] * 2] * 2)
        for weaving in [[0, 0, 1, 1], [0, 1, 0, 1], [1, 0, 0, 1], [1, 1, 0, 0]]:
            self.same(settled(puts, weaving), weaving)

    def test_a_step_goes_forward_past_lesser_workers_too(self):
        # The put of worker 1 comes ahead of worker 2's, though worker 0's stands between them and can't go forward.
        loom = loom_with([("get", "a", "x")], [("put", "y", ONE)], [("put", "x", ONE)])
        self.same(settled(loom, [2, 0, 1]), [1, 2, 0])
        # Ahead of the first greater worker, not of the last one only.
        loom = loom_with([("get", "a", "x")], [("skip", 0)], [("put", "x", ONE)], [("put", "x", ONE)])
        self.same(settled(loom, [3, 2, 0, 1]), [1, 3, 2, 0])

    def test_a_step_does_not_go_past_what_it_concerns(self):
        loom = loom_with([("get", "a", "x")], [("skip", 0)] * 2, [("put", "x", ONE), ("skip", 0)])
        self.same(settled(loom, [2, 0, 2, 1, 1]), [1, 1, 2, 0, 2])
        self.same(settled(loom, [2, 1, 2, 0, 1]), [1, 1, 2, 0, 2])

    def test_the_least_of_all_that_are_alike(self):
        many = 0
        for seed in range(250):
            loom = loom_of(*chance_loom(seed))
            kept = copy.deepcopy(loom)
            told = {}
            for weaving, state in list(all_weavings(loom))[-40:]:
                if tuple(weaving) not in told:
                    others = all_alike(loom, weaving)
                    many += len(others) > 1
                    told.update((tuple(other), min(others)) for other in others)
                handed = list(weaving)
                least = settled(loom, handed)
                self.same(least, told[tuple(weaving)])
                self.same(woven(loom, least), state)
                self.same(settled(loom, least), least)
                self.assertIsNot(least, handed)
                self.assertEqual(handed, weaving)
            self.assertEqual(loom, kept)
        self.assertGreater(many, 200)

    def test_longer_weavings(self):
        # Four workers and more steps than all weavings could be gone through of.
        for seed in range(60):
            loom = loom_of(*chance_loom(seed, most_workers=4, most_steps=4))
            weaving = one_weaving(loom, seed)
            others = all_alike(loom, weaving)
            for other in [weaving, others[len(others) // 2], others[-1], max(others)]:
                self.same(settled(loom, other), min(others))

    def test_the_longest_weaving(self):
        weaving = [5, 4, 3, 2, 1, 0] * 30
        self.same(settled(loom_of(*idlers(*[30] * 6)), weaving), sorted(weaving))
        puts = loom_of(5, (("x", 0),), (), (("p", (), (("put", "x", ONE),) * 30),), (0,) * 6, ())
        self.same(settled(puts, weaving), weaving)
        self.same(settled(GREATEST, weaving), sorted(weaving))


def one_weaving(loom, seed):
    """A weaving to an end, with a turn of workers that the seed tells."""
    weaving = []
    state = first_of(loom)
    while able_in(loom, state):
        able = able_in(loom, state)
        weaving.append(able[(seed + 7 * len(weaving)) % len(able)])
        state = stepped(loom, state, weaving[-1])
    return weaving


class AlikeTest(ExchangingTest):
    def alike(self, loom, one, other, answer):
        first, second = list(one), list(other)
        self.assertIs(alike(loom, first, second), answer)
        self.assertIs(alike(loom, second, first), answer)
        self.assertEqual((first, second), (list(one), list(other)))

    def test_with_itself(self):
        for loom, weaving in [(SMALLEST, []), (ORDINARY, []), (ORDINARY, [0, 0]), (RACE, [0, 1, 1, 0])]:
            self.alike(loom, weaving, weaving, True)
            self.assertIs(alike(loom, weaving, weaving), True)

    def test_by_one_and_by_many_exchanges(self):
        self.alike(RACE, [0, 1, 0, 1], [1, 0, 0, 1], True)
        self.alike(idlers(3, 3), [0, 0, 0, 1, 1, 1], [1, 1, 1, 0, 0, 0], True)
        self.alike(idlers(1, 1, 1), [0, 1, 2], [2, 1, 0], True)

    def test_of_the_same_steps_and_not_alike(self):
        self.alike(RACE, [0, 1, 0, 1], [0, 1, 1, 0], False)
        self.alike(RACE, [0, 0, 1, 1], [1, 1, 0, 0], False)
        # They come to the same state, but no exchange leads from one to the other.
        puts = loom_with([("put", "x", ONE)], [("put", "x", ONE)])
        self.assertEqual(woven(puts, [0, 1]), woven(puts, [1, 0]))
        self.alike(puts, [0, 1], [1, 0], False)

    def test_of_other_length_or_other_workers(self):
        loom = idlers(2, 2, 2)
        self.alike(loom, [], [0], False)
        self.alike(loom, [0, 1], [0, 1, 0], False)
        self.alike(loom, [0, 1], [0, 2], False)
        self.alike(loom, [0, 0, 1], [0, 1, 1], False)

    def test_all_pairs_of_many_looms(self):
        met = {True: 0, False: 0}
        for seed in range(150):
            loom = loom_of(*chance_loom(seed))
            weavings = [weaving for weaving, state in all_weavings(loom)][-12:]
            classes = [{tuple(other) for other in all_alike(loom, weaving)} for weaving in weavings]
            for one, its_class in zip(weavings, classes):
                for other in weavings:
                    answer = tuple(other) in its_class
                    self.assertIs(alike(loom, one, other), answer)
                    met[answer] += one != other
                    if answer:
                        self.assertEqual(woven(loom, one), woven(loom, other))
        self.assertGreater(min(met.values()), 300)


class NoMoveTest(ExchangingTest):
    def refused(self, loom, weaving, good):
        """What is no weaving is refused by each function, and stays; the other list is a weaving."""
        length = len(weaving)
        for k in FAR_PLACES + list(range(length + 2)):
            self.no_move(may_exchange, loom, weaving, k)
        self.no_move(settled, loom, weaving)
        self.no_move(alike, loom, weaving, good)
        self.no_move(alike, loom, good, weaving)
        self.no_move(alike, loom, weaving, weaving)
        self.assertEqual(len(weaving), length)

    def test_what_is_no_worker_s_number(self):
        loom = idlers(3, 3)
        good = [0, 1, 0, 1]
        for worker in NO_WORKERS + [2, 3]:
            for weaving in [[worker], [worker, 0, 1], [0, worker, 1, 0], [0, 1, 0, worker]]:
                self.refused(loom, weaving, good)
                self.refused(loom, weaving, [])

    def test_whatever_it_is(self):
        loom = idlers(3, 3)
        for worker in strange_things() + [deep_list(20000), deep_tuple(20000)]:
            if type(worker) is not int or worker not in (0, 1):
                for weaving in [[worker], [worker, 0], [0, worker, 0], [1, 0, worker]]:
                    self.refused(loom, weaving, [0])

    def test_one_who_is_not_able_then(self):
        crossing = loom_with([("take", "l"), ("take", "m")], [("take", "m"), ("take", "l")])
        for weaving in [[0, 0, 1], [0, 1, 0], [1, 0, 1], [0, 0, 1, 0]]:
            self.refused(crossing, weaving, [0, 1])
        waiting = loom_with([("wait", "x", ONE)], [("put", "x", ONE), ("put", "x", ZERO)])
        for weaving in [[0], [0, 1], [1, 1, 0]]:
            self.refused(waiting, weaving, [1, 0, 1])
        broken = loom_with([("check", ZERO), ("skip", 0)], [("skip", 0)] * 2)
        for weaving in [[0, 0], [0, 0, 1], [1, 0, 1, 0], [0, 1, 0, 1]]:
            self.refused(broken, weaving, [0, 1, 1])
        self.refused(SMALLEST, [0], [])
        self.refused(idlers(1, 2), [0, 0], [0])
        self.refused(idlers(1, 2), [0, 1, 0, 1], [0])

    def test_lists_with_what_is_no_weaving_stay(self):
        for weaving in [[None], [0, [1], 0], [0, 0, 0, 0]]:
            kept = copy.deepcopy(weaving)
            self.no_move(settled, RACE, weaving)
            self.no_move(may_exchange, RACE, weaving, 0)
            self.no_move(alike, RACE, weaving, [0])
            self.assertEqual(weaving, kept)


class OwnTest(ExchangingTest):
    def test_the_list_told_is_the_asker_s_own(self):
        loom = loom_of(*idlers(2, 2))
        weaving = [1, 0, 1, 0]
        first = settled(loom, weaving)
        first.reverse()
        first.append(None)
        self.same(settled(loom, weaving), [0, 0, 1, 1])
        later = settled(loom, weaving)
        weaving.append("no worker")
        settled(loom, [1]).clear()
        self.same(later, [0, 0, 1, 1])
        least = [0, 0, 1, 1]
        settled(loom, least).clear()
        self.same(least, [0, 0, 1, 1])
