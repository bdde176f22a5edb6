import copy
import unittest

from loomlook.errors import NoMove
from loomlook.looms import loom_of
from loomlook.values import worth
from loomlook.weaving import told, word_of, woven
from tests.helper import ORDINARY, SMALLEST, STEPS, able_in, all_weavings, chance_loom, deep_list, deep_tuple, first_of
from tests.helper import kinds_of, loom_with, strange_things

ONE = ("number", 1)
ZERO = ("number", 0)

# Each gets what the box has and puts one more: where both get ahead of both puts, one is lost.
RACE = loom_with(*[[("get", "a", "x"), ("put", "x", ("plus", ("own", "a"), ONE))]] * 2,
                 claims=(("same", ("box", "x"), ("number", 2)),))


class WeavingTest(unittest.TestCase):
    def same(self, one, other):
        self.assertEqual(kinds_of(one), kinds_of(other))

    def no_move(self, loom, weaving):
        length = len(weaving)
        for call in (woven, told):
            try:
                call(loom, weaving)
            except ValueError as e:
                self.assertIs(type(e), NoMove)
            else:
                self.fail("not refused")
        self.assertEqual(len(weaving), length)


class WovenTest(WeavingTest):
    def test_no_steps(self):
        self.same(woven(ORDINARY, []), first_of(ORDINARY))
        self.same(woven(SMALLEST, []), ((), (), ((0, ()),)))
        self.same(told(ORDINARY, []), [])
        self.same(told(SMALLEST, []), [])

    def test_an_ordinary_weaving(self):
        self.same(woven(ORDINARY, [0]), ((0, 9), (0,), ((1, (0, 3)), (0, ()), (0, (0, 3)))))
        self.same(woven(ORDINARY, [2, 2, 2]), ((0, 9), (2,), ((0, (0, 3)), (0, ()), (3, (0, 1)))))
        first_done = woven(ORDINARY, [0] * 7)
        self.same(first_done, ((1, 8), (-1,), ((7, (0, 1)), (0, ()), (0, (0, 3)))))
        done = woven(ORDINARY, [0] * 7 + [2] * 5 + [1, 1] + [2, 1, 2])
        self.same(done, ((2, 7), (-1,), ((7, (0, 1)), (3, ()), (7, (1, 2)))))

    def test_a_race(self):
        self.same(woven(RACE, [0, 0, 1, 1]), ((2, 0), (-1, -1), ((2, (0, 1)), (2, (1, 1)))))
        self.same(woven(RACE, [0, 1, 0, 1]), ((1, 0), (-1, -1), ((2, (0, 1)), (2, (0, 1)))))

    def test_triples(self):
        weaving = [0, 0, 0, 0, 0, 0, 0, 2, 2]
        triples = [(0, place, STEPS[place]) for place in range(7)] + [(2, 0, STEPS[0]), (2, 1, STEPS[1])]
        self.same(told(ORDINARY, weaving), triples)

    def test_triples_tell_where_a_worker_stood(self):
        steps = [("skip", 1), ("skip", 0), ("unless", ZERO, 1), ("check", ONE), ("check", ZERO), ("skip", 0)]
        loom = loom_with(steps, [("give", "l")])
        self.same(told(loom, [0, 1, 0, 0]),
                  [(0, 0, ("skip", 1)), (1, 0, ("give", "l")), (0, 2, ("unless", ZERO, 1)), (0, 4, ("check", ZERO))])
        self.same(woven(loom, [0, 1, 0, 0])[2], ((-1, (0, 1)), (-1, (0, 1))))

    def test_every_weaving_of_many_looms(self):
        for seed in range(150):
            loom = loom_of(*chance_loom(seed))
            spots = {(): first_of(loom)[2]}
            for weaving, state in list(all_weavings(loom))[:200]:
                kept = list(weaving)
                self.same(woven(loom, weaving), state)
                triples = told(loom, weaving)
                self.assertEqual([worker for worker, place, step in triples], weaving)
                spots[tuple(weaving)] = state[2]
                for at, (worker, place, step) in enumerate(triples):
                    self.assertEqual(place, spots[tuple(weaving[:at])][worker][0])
                    self.same(step, loom[3][loom[4][worker]][2][place])
                self.assertEqual(weaving, kept)

    def test_the_longest_weaving(self):
        loom = loom_of(5, (), (), (("p", (), (("skip", 0),) * 30),), (0,) * 6, ())
        weaving = [0, 1, 2, 3, 4, 5] * 30
        self.same(woven(loom, weaving), ((), (), ((30, ()),) * 6))
        self.assertEqual(len(told(loom, weaving)), 180)
        self.no_move(loom, weaving + [0])


class NoMoveTest(WeavingTest):
    def test_what_is_no_worker_s_number(self):
        for worker in [3, 4, -1, -3, 10 ** 30, 10 ** 5000, True, False, None, "", "0", [], [0], (0,), (), {}]:
            self.no_move(ORDINARY, [worker])
            self.no_move(ORDINARY, [0, worker])
            self.no_move(ORDINARY, [0, worker, 0])
        for worker in [deep_list(20000), deep_tuple(20000)]:
            self.no_move(ORDINARY, [0, worker])
        for worker in strange_things():
            if type(worker) is not int or worker not in (0, 2):
                self.no_move(ORDINARY, [worker])

    def test_one_who_is_not_able(self):
        self.no_move(ORDINARY, [1])
        self.no_move(ORDINARY, [0, 2])
        self.no_move(ORDINARY, [0] * 8)
        self.no_move(SMALLEST, [0])
        self.no_move(loom_with([("check", ZERO), ("skip", 0)]), [0, 0])
        self.no_move(loom_with([("take", "l"), ("take", "l")]), [0, 0])

    def test_in_the_midst_of_a_weaving(self):
        self.no_move(ORDINARY, [0, 0, 1, 0])
        self.no_move(ORDINARY, [0, 2, 0])
        self.no_move(RACE, [0, 0, 0, 1])
        self.no_move(RACE, [0, 1, True, 1])

    def test_what_is_handed_in_stays(self):
        loom = copy.deepcopy(ORDINARY)
        for weaving in [[], [0, 0, 0], [0, 2], [0, None, [1]], [0] * 9]:
            kept = copy.deepcopy(weaving)
            for call in (woven, told):
                try:
                    call(loom, weaving)
                except NoMove:
                    pass
            self.assertEqual(weaving, kept)
        self.assertEqual(loom, ORDINARY)

    def test_each_of_many_looms(self):
        for seed in range(60):
            loom = loom_of(*chance_loom(seed))
            for weaving, state in list(all_weavings(loom))[:80]:
                for worker in range(-1, len(loom[4]) + 1):
                    if worker not in able_in(loom, state):
                        self.no_move(loom, weaving + [worker])


class OwnTest(WeavingTest):
    def test_the_list_told_is_the_asker_s_own(self):
        weaving = [0, 0]
        first = told(ORDINARY, weaving)
        kept = list(first)
        first.pop()
        first.append(None)
        self.same(told(ORDINARY, weaving), kept)
        later = told(ORDINARY, weaving)
        weaving.append(0)
        told(ORDINARY, weaving).clear()
        self.same(later, kept)


class WordTest(WeavingTest):
    def word(self, loom, weaving, word):
        self.same(word_of(loom_of(*loom), woven(loom, weaving)), word)

    def test_good(self):
        self.word(SMALLEST, [], "good")
        self.word(RACE, [0, 0, 1, 1], "good")
        self.word(loom_with([("skip", 0)]), [0], "good")
        self.word(loom_with([], claims=(ONE, ("not", ("box", "x")))), [], "good")

    def test_wrong(self):
        self.word(RACE, [0, 1, 0, 1], "wrong")
        self.word(loom_with([], claims=(ONE, ZERO)), [], "wrong")
        self.word(loom_with([], claims=(ZERO, ONE)), [], "wrong")
        self.word(loom_with([], size=5, claims=(("number", 5),)), [], "wrong")

    def test_on(self):
        self.word(RACE, [], "on")
        self.word(RACE, [0, 1, 0], "on")
        self.word(loom_with([("check", ZERO)], [("skip", 0)], claims=(ZERO,)), [0], "on")
        self.word(loom_with([("take", "l"), ("take", "l")], [("skip", 0)], claims=(ZERO,)), [0], "on")

    def test_stuck(self):
        self.word(loom_with([("take", "l"), ("take", "l")]), [0], "stuck")
        self.word(loom_with([("wait", "x", ONE)]), [], "stuck")
        crossing = loom_with([("take", "l"), ("take", "m")], [("take", "m"), ("take", "l")])
        self.word(crossing, [0, 1], "stuck")
        self.word(crossing, [0, 0], "stuck")
        self.word(loom_with([], [("wait", "x", ONE)]), [], "stuck")

    def test_broken(self):
        self.word(loom_with([("check", ZERO)]), [0], "broken")
        self.word(loom_with([("give", "l")]), [0], "broken")
        self.word(loom_with([("skip", 0)], [("give", "l"), ("skip", 0)]), [0, 1], "broken")

    def test_broken_ahead_of_stuck_and_wrong(self):
        self.word(loom_with([("check", ZERO)], [("wait", "x", ONE)]), [0], "broken")
        self.word(loom_with([("wait", "x", ONE)], [("check", ZERO)]), [1], "broken")
        self.word(loom_with([("check", ZERO)], claims=(ZERO,)), [0], "broken")

    def test_stuck_ahead_of_wrong(self):
        self.word(loom_with([("wait", "x", ONE)], claims=(ZERO,)), [], "stuck")
        self.word(loom_with([], [("wait", "x", ONE)], claims=(ZERO,)), [], "stuck")

    def test_a_claim_over_the_boxes_at_the_end(self):
        steps = [("add", "x", ("number", 3)), ("put", "y", ("number", 4))]
        for claim, word in [(("same", ("box", "x"), ("number", 3)), "good"), (("not", ("box", "x")), "wrong"),
                            (("less", ("box", "x"), ("box", "y")), "good"), (("less", ("box", "y"), ("box", "x")), "wrong"),
                            (("plus", ("box", "x"), ("number", 2)), "wrong"), (("minus", ("box", "y"), ONE), "good")]:
            self.word(loom_with(steps, claims=(claim,)), [0, 0], word)
            self.word(loom_with(steps, claims=(ONE, claim, ONE)), [0, 0], word)
            self.word(loom_with(steps, claims=(claim,)), [0], "on")

    def test_every_state_of_many_looms(self):
        met = set()
        for seed in range(250):
            loom = loom_of(*chance_loom(seed))
            boxes = [name for name, number in loom[1]]
            for weaving, state in list(all_weavings(loom))[-200:]:
                places = [place for place, owns in state[2]]
                lengths = [len(loom[3][worker][2]) for worker in loom[4]]
                worths = [worth(claim, loom[0], {}, dict(zip(boxes, state[0]))) for claim in loom[5]]
                word = "on" if able_in(loom, state) else "broken" if -1 in places else \
                    "stuck" if places != lengths else "wrong" if 0 in worths else "good"
                self.same(word_of(loom, state), word)
                met.add(word)
        self.assertEqual(met, {"on", "broken", "stuck", "wrong", "good"})
