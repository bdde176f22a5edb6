import copy
import itertools

from loomlook.errors import NoWay, TooMany
from loomlook.folded import folded_ends, folded_way
from loomlook.folding import fold
from loomlook.judging import ends_by, verdict
from loomlook.lean import lean_ends, lean_way
from loomlook.looking import ends, way_to
from loomlook.looms import loom_of
from loomlook.weaving import word_of, woven
from tests.helper import ORDINARY, SMALLEST, HandedTest, able_in, all_weavings, busy_loom, chance_loom, crowd, first_of
from tests.helper import idlers, loom_with, paired_loom, started, stepped, strange_things, with_part, word_told

LOOKINGS = ["plain", "lean", "folded", "both"]
WORDS = ["broken", "stuck", "wrong", "good"]

ONE = ("number", 1)
ZERO = ("number", 0)
TWO = ("number", 2)


def same_as(number):
    return ("same", ("own", "a"), ("number", number))


# What it gets tells how it ends: 1 wrong, 2 stuck, 3 broken, else good.
READER = [("get", "a", "x"), ("unless", same_as(3), 1), ("check", ZERO), ("unless", same_as(2), 1),
          ("wait", "y", ("number", 4)), ("unless", same_as(1), 1), ("put", "y", ONE)]
# So too, but the worse ends come behind the better ones, as the boxes have greater numbers there.
LATE_READER = [("get", "a", "x"), ("put", "y", ("own", "a")), ("unless", same_as(3), 1), ("check", ZERO),
               ("unless", same_as(2), 1), ("wait", "y", ("number", 4))]


def reading(puts, workers=(0, 1), reader=READER):
    """A loom with ends of the words that the numbers put stand for, and good ones."""
    writer = [("put", "x", ("number", number)) for number in puts]
    return loom_of(*with_part(loom_with(reader, writer, claims=(("not", ("box", "y")),)), workers=workers))


ADDER = [("get", "a", "x"), ("put", "x", ("plus", ("own", "a"), ONE))]
CLAIM = ("same", ("box", "x"), TWO)
RACE = loom_of(*with_part(loom_with(ADDER, claims=(CLAIM,)), workers=(0, 0)))
LOCKED = loom_of(*with_part(loom_with([("take", "l")] + ADDER + [("give", "l")], claims=(CLAIM,)), workers=(0, 0)))
CROSSING = loom_of(*loom_with([("take", "l"), ("take", "m")], [("take", "m"), ("take", "l")]))
BREAKING = loom_of(*loom_with([("get", "a", "x"), ("check", ("own", "a"))], [("put", "x", ONE)]))

# Too great for some of the ways of looking.
FOR_PLAIN = loom_of(*idlers(10, 10, 10, 10))
FOR_PLAIN_AND_FOLDED = loom_of(*idlers(*[30] * 6))
FOR_PLAIN_AND_LEAN = loom_of(*with_part(crowd(12, 2, 30), workers=(0, 1, 2, 2)))
FOR_ALL = loom_of(*with_part(crowd(13, 2, 30), workers=(0, 1, 2, 2)))


class JudgingTest(HandedTest):
    def judges(self, loom, word):
        """The word is told in every way of looking, with a weaving that comes to such an end."""
        for looking in LOOKINGS:
            kept = copy.deepcopy(loom)
            pair = verdict(loom, looking)
            self.same(loom, kept)
            self.assertIs(type(pair), tuple)
            self.assertEqual(len(pair), 2)
            self.same(pair[0], word)
            self.shows(loom, pair[1], word)
        self.same(verdict(loom), verdict(loom, "plain"))

    def shows(self, loom, weaving, word):
        if word == "good":
            self.assertIsNone(weaving)
            return
        self.assertIs(type(weaving), list)
        state = first_of(loom)
        for worker in weaving:
            self.assertIn(worker, able_in(loom, state))
            state = stepped(loom, state, worker)
        self.assertEqual(able_in(loom, state), [])
        self.assertEqual(word_told(loom, state), word)


class WordTest(JudgingTest):
    def test_good(self):
        for loom in [SMALLEST, LOCKED, reading([]), idlers(2, 2, 1), with_part(RACE, claims=())]:
            self.judges(loom, "good")

    def test_wrong(self):
        self.judges(RACE, "wrong")
        self.judges(with_part(LOCKED, claims=(CLAIM, ("same", ("box", "x"), ONE))), "wrong")
        self.judges(with_part(SMALLEST, claims=(ZERO,)), "wrong")

    def test_stuck(self):
        self.judges(CROSSING, "stuck")
        self.judges(loom_with([("wait", "x", ONE)], []), "stuck")
        self.judges(loom_with([("take", "l"), ("take", "l")], [("skip", 0)]), "stuck")

    def test_broken(self):
        self.judges(BREAKING, "broken")
        self.judges(loom_with([("give", "l")]), "broken")
        self.judges(loom_with([("take", "l"), ("take", "m")], [("give", "l"), ("take", "m")]), "broken")

    def test_an_ordinary_loom(self):
        words = {word_told(ORDINARY, state) for weaving, state in all_weavings(with_part(ORDINARY, workers=(0, 1)))
                 if able_in(with_part(ORDINARY, workers=(0, 1)), state) == []}
        self.assertEqual(words, {"stuck"})
        self.judges(with_part(ORDINARY, workers=(0, 1)), "stuck")
        self.judges(ORDINARY, "wrong")

    def test_one_word_ahead_of_another(self):
        numbers = {"good": 0, "wrong": 1, "stuck": 2, "broken": 3}
        for workers in [(0, 1), (1, 0), (0, 1, 0)]:
            for many in range(4):
                for words in itertools.permutations(["broken", "stuck", "wrong"], many):
                    for reader in [READER, LATE_READER]:
                        loom = reading([numbers[word] for word in words], workers, reader)
                        self.judges(loom, min(words, key=WORDS.index, default="good"))

    def test_all_four_words_among_the_ends(self):
        for looking in LOOKINGS:
            words = [word_of(reading([1, 2, 3]), end) for end in ends_by(reading([1, 2, 3]), looking)]
            self.assertEqual(set(words), set(WORDS))

    def test_claims_at_some_ends_alone(self):
        self.assertEqual({word_of(RACE, end) for end in ends(RACE)}, {"wrong", "good"})
        for claim in [("same", ("box", "x"), ONE), CLAIM, ("less", ("box", "x"), TWO)]:
            self.judges(with_part(RACE, claims=(claim,)), "wrong")
            self.judges(with_part(RACE, claims=(ONE, claim)), "wrong")
        # Any number but 0 makes a claim hold.
        for claim in [("box", "x"), ("less", ("box", "x"), ("number", 3)), ("number", 4)]:
            self.judges(with_part(RACE, claims=(claim,)), "good")
        # By the size 5 it comes to 0.
        self.judges(with_part(RACE, claims=(("number", 5),)), "wrong")

    def test_claims_are_asked_of_no_other_ends(self):
        self.judges(with_part(CROSSING, claims=(ZERO,)), "stuck")
        self.judges(with_part(BREAKING, claims=(ZERO,)), "broken")

    def test_the_first_state_is_an_end(self):
        for loom, word in [(with_part(SMALLEST, claims=(ZERO,)), "wrong"), (loom_with([("wait", "x", ONE)]), "stuck")]:
            for looking in LOOKINGS:
                self.same(verdict(loom, looking), (word, []))
        for looking in LOOKINGS:
            self.same(verdict(SMALLEST, looking), ("good", None))


class LookingsTest(JudgingTest):
    LOOMS = [SMALLEST, ORDINARY, RACE, LOCKED, CROSSING, BREAKING, reading([1, 2, 3]), reading([3, 2, 1], (0, 1, 0)),
             reading([2, 1], (0, 0, 1))]

    def test_ends(self):
        for loom in self.LOOMS + [paired_loom(seed) for seed in range(60)]:
            plain = ends(loom)
            folded = sorted({fold(loom, end)[0] for end in plain})
            self.same(ends_by(loom, "plain"), plain)
            self.same(ends_by(loom, "lean"), plain)
            self.same(ends_by(loom, "lean"), lean_ends(loom))
            self.same(ends_by(loom, "folded"), folded)
            self.same(ends_by(loom, "folded"), folded_ends(loom))
            self.same(ends_by(loom, "both"), folded)
            self.same(ends_by(loom, "both"), folded_ends(loom, True))

    def test_fewer_ends_when_folded(self):
        self.assertEqual([len(ends_by(RACE, looking)) for looking in LOOKINGS], [3, 3, 2, 2])

    def test_the_weaving_is_the_way_to_the_first_such_end(self):
        ways = {
            "plain": way_to,
            "lean": lean_way,
            "folded": lambda loom, end: folded_way(loom, end),
            "both": lambda loom, end: folded_way(loom, end, True),
        }
        later = 0
        puts = [each for many in range(4) for each in itertools.permutations([1, 2, 3], many)]
        looms = self.LOOMS + [reading(each, reader=LATE_READER) for each in puts]
        for loom in looms + [paired_loom(seed) for seed in range(100)]:
            for looking in LOOKINGS:
                states = ends_by(loom, looking)
                word = min([word_told(loom, end) for end in states], key=WORDS.index)
                first = [end for end in states if word_told(loom, end) == word][0]
                later += first != states[0]
                weaving = None if word == "good" else ways[looking](loom, first)
                self.same(verdict(loom, looking), (word, weaving))
                self.same(verdict(loom, looking=looking), (word, weaving))
        self.assertGreater(later, 60)

    def test_the_ways_may_be_unlike(self):
        puts = [("put", "x", ONE)]
        loom = loom_of(*loom_with(puts, puts, [("skip", 0)], claims=(ZERO,)))
        self.same(verdict(loom), ("wrong", [0, 1, 2]))
        self.same(verdict(loom, "plain"), ("wrong", [0, 1, 2]))
        self.same(verdict(loom, "lean"), ("wrong", [2, 0, 1]))
        self.same(verdict(loom, "folded"), ("wrong", [0, 1, 2]))
        self.same(verdict(loom, "both"), ("wrong", [2, 0, 1]))

    def test_a_race_by_hand(self):
        self.same(verdict(RACE), ("wrong", [0, 1, 0, 1]))
        self.same(verdict(RACE, "lean"), ("wrong", [0, 1, 0, 1]))
        self.same(verdict(CROSSING), ("stuck", [0, 0]))

    def test_other_ways_are_refused(self):
        others = strange_things() + [
            "Plain", "PLAIN", "plain ", " plain", "plain\n", "lean folded", "leanfolded", "foldedlean", "bot", "all",
            ["plain"], ("plain",), [["plain"]], ("plain", "lean"), ["plain", "lean", "folded", "both"], [None], 4,
            LOOKINGS, tuple(LOOKINGS),
        ]
        for looking in others:
            self.refused(NoWay, verdict, RACE, looking)
            self.refused(NoWay, ends_by, RACE, looking)

    def test_another_way_is_refused_ahead_of_too_many(self):
        for loom in [FOR_ALL, FOR_PLAIN, FOR_PLAIN_AND_FOLDED]:
            for looking in ["", "Plain", None, 0, True, [], ["plain"]]:
                self.refused(NoWay, verdict, loom, looking)
                self.refused(NoWay, ends_by, loom, looking)


class BoundTest(JudgingTest):
    def test_too_great_for_some(self):
        told = [(FOR_PLAIN, ["plain"]), (FOR_PLAIN_AND_FOLDED, ["plain", "folded"]),
                (FOR_PLAIN_AND_LEAN, ["plain", "lean"]), (FOR_ALL, LOOKINGS)]
        for loom, lookings in told:
            claimed = with_part(loom, claims=(ZERO,))
            for looking in LOOKINGS:
                if looking in lookings:
                    self.refused(TooMany, verdict, loom, looking)
                    self.refused(TooMany, ends_by, loom, looking)
                    self.refused(TooMany, verdict, claimed, looking)
                else:
                    self.same(verdict(loom, looking), ("good", None))
                    self.assertEqual(len(ends_by(loom, looking)), 1)
                    pair = verdict(claimed, looking)
                    self.assertEqual(pair[0], "wrong")
                    self.shows(claimed, pair[1], "wrong")
            self.refused(TooMany, verdict, loom)

    def test_just_1500(self):
        plain = loom_of(*started(12, 2, 15, 30))
        self.same(verdict(plain), ("good", None))
        self.refused(TooMany, verdict, loom_of(*started(13, 2, 15, 30)))
        lean = loom_of(*crowd(12, 2, 15, 30))
        self.same(verdict(lean, "lean"), ("good", None))
        self.refused(TooMany, verdict, loom_of(*crowd(13, 2, 15, 30)), "lean")


class EveryWeavingTest(JudgingTest):
    """What a verdict tells, held against all weavings, gone through one by one."""

    def goes_through(self, loom):
        # The looms with very many weavings are passed over.
        weavings = list(itertools.islice(all_weavings(loom), 4000))
        if len(weavings) == 4000:
            return None
        told = [word_told(loom, state) for weaving, state in weavings if able_in(loom, state) == []]
        worst = min(told, key=WORDS.index)
        self.judges(loom_of(*loom), worst)
        for looking in LOOKINGS:
            self.assertEqual({word_told(loom, end) for end in ends_by(loom, looking)}, set(told))
        return (worst, len(set(told)) > 1)

    def gone(self, looms, fewest, words):
        pairs = [pair for pair in map(self.goes_through, looms) if pair is not None]
        self.assertGreaterEqual(len(pairs), fewest)
        self.assertEqual({word for word, several in pairs}, set(words))
        return sum(several for word, several in pairs)

    def test_looms_of_alike_workers(self):
        self.assertGreater(self.gone([paired_loom(seed) for seed in range(200)], 180, WORDS), 15)

    def test_other_looms(self):
        self.gone([chance_loom(seed) for seed in range(200)], 180, WORDS)

    def test_busy_looms(self):
        claims = (("not", ("same", ("box", "x"), ONE)),)
        self.gone([with_part(busy_loom(seed), claims=claims) for seed in range(100)], 80, WORDS)

    def test_looms_with_ends_of_several_words(self):
        looms = [reading(puts) for many in range(1, 4) for puts in itertools.permutations([1, 2, 3, 4], many)]
        self.assertGreater(self.gone(looms, len(looms), WORDS), 30)

    def test_looms_with_something_told_of_them(self):
        self.gone([SMALLEST, RACE, LOCKED, CROSSING, BREAKING], 5, WORDS)


class OwnTest(JudgingTest):
    def test_lists_told_are_the_asker_s_own(self):
        for looking in LOOKINGS:
            self.own(ends_by, RACE, looking)
            self.own(lambda loom, looking: verdict(loom, looking)[1], RACE, looking)
            self.own(lambda loom, looking: verdict(loom, looking)[1], with_part(SMALLEST, claims=(ZERO,)), looking)
        self.own(lambda loom: verdict(loom)[1], RACE)

    def test_what_is_told_ends_so(self):
        for looking in LOOKINGS:
            pair = verdict(RACE, looking)
            self.assertEqual(word_of(RACE, woven(RACE, pair[1])), pair[0])
