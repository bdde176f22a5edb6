import copy
import itertools
import unittest

from loomlook.steps import apart, is_step, touched
from loomlook.values import worth
from tests.helper import chain, deep_list, deep_tuple, spoiled, strange_things

OWNS = ["a", "b"]
BOXES = ["x", "y"]
LOCKS = ["l", "m"]
ONE = ("number", 1)
OWN = ("own", "a")

# Each of the ten steps, and what its parts are.
FORMS = {
    ("set", "a", OWN): ("own", "value"),
    ("get", "a", "x"): ("own", "box"),
    ("put", "x", OWN): ("box", "value"),
    ("add", "x", OWN): ("box", "value"),
    ("take", "l"): ("lock",),
    ("give", "l"): ("lock",),
    ("wait", "x", OWN): ("box", "value"),
    ("check", OWN): ("value",),
    ("skip", 2): ("k",),
    ("unless", OWN, 2): ("value", "k"),
}

RIGHT = {
    "own": ["a", "b"],
    "box": ["x", "y"],
    "lock": ["l", "m"],
    "value": [ONE, ("own", "b"), ("number", 0), ("number", 99), chain(OWN, 4), ("plus", OWN, ("not", ONE))],
    "k": [0, 1, 2, 3],
}

NO_NAMES = [0, 1, True, None, "", "A", "c", "abcdefghi", ["a"], ("a",), ("own", "a"), ("box", "x"), deep_tuple(200)]

WRONG = {
    "own": NO_NAMES + ["x", "l"],
    "box": NO_NAMES + ["a", "l"],
    "lock": NO_NAMES + ["a", "x"],
    "value": [0, 1, True, None, "a", "x", (), [], ["number", 1], ("number", 100), ("number", True), ("own", "x"),
              ("box", "x"), ("box", "a"), ("plus", OWN, ("box", "x")), ("not", ("box", "y")), chain(OWN, 5),
              chain(ONE, 200), deep_tuple(200), deep_list(200), ("skip", 0)],
    "k": [-1, 4, 5, 100, True, False, None, "1", "", [0], (0,), ("number", 1)],
}


class StepTest(unittest.TestCase):
    def yes(self, thing, behind=3):
        self.assertIs(is_step(thing, list(OWNS), list(BOXES), list(LOCKS), behind), True, thing)

    def no(self, thing, behind=3):
        self.assertIs(is_step(thing, list(OWNS), list(BOXES), list(LOCKS), behind), False)

    def test_each_of_the_ten_is_a_step(self):
        self.assertEqual(len(FORMS), 10)
        for step in FORMS:
            self.yes(step)

    def test_right_parts(self):
        for step, kinds in FORMS.items():
            for place, kind in enumerate(kinds, start=1):
                for part in RIGHT[kind]:
                    self.yes(step[:place] + (part,) + step[place + 1:])

    def test_wrong_parts(self):
        for step, kinds in FORMS.items():
            for place, kind in enumerate(kinds, start=1):
                for part in WRONG[kind]:
                    with self.subTest(step=step, place=place, part=str(part)[:30]):
                        self.no(step[:place] + (part,) + step[place + 1:])

    def test_a_part_less_or_more_and_lists(self):
        for step in FORMS:
            self.no(list(step))
            self.no(step[:-1])
            self.no(step[:1])
            self.no(step[1:])
            self.no(step + (step[-1],))
            self.no(step + (0,))
            self.no(step + ((),))
        self.no(())

    def test_the_first_part_must_be_one_of_the_words(self):
        for first in strange_things() + ["number", "Set", "set ", "own", "box", "jump"]:
            if first != "skip":
                self.no((first, 0))
            self.no((first,))
            self.no((first, "a", OWN))
            self.no((first, "x", OWN))
            self.no((first, "l"))
            self.no((first, OWN, 2))

    def test_what_is_no_tuple_of_words_is_no_step(self):
        for thing in strange_things():
            self.assertIs(is_step(thing, OWNS, BOXES, LOCKS, 3), thing in [("skip", 0), ("take", "l")])

    def test_words_of_values_are_no_steps_nor_the_other_way_round(self):
        for thing in [ONE, OWN, ("box", "x"), ("not", ONE), ("plus", ONE, ONE)]:
            self.no(thing)

    def test_values_hold_no_box_even_one_called_like_an_own(self):
        for step in [("set", "n", ("box", "n")), ("put", "n", ("box", "n")), ("add", "n", ("box", "n")),
                     ("wait", "n", ("box", "n")), ("check", ("box", "n")), ("unless", ("box", "n"), 0)]:
            self.assertIs(is_step(step, ["n"], ["n"], ["n"], 0), False)
            own = tuple(("own", "n") if part == ("box", "n") else part for part in step)
            self.assertIs(is_step(own, ["n"], ["n"], ["n"], 0), True)

    def test_names_count_in_their_own_lists_alone(self):
        self.assertIs(is_step(("get", "n", "n"), ["n"], ["n"], [], 0), True)
        self.assertIs(is_step(("get", "n", "n"), ["n"], [], ["n"], 0), False)
        self.assertIs(is_step(("get", "n", "n"), [], ["n"], ["n"], 0), False)
        self.assertIs(is_step(("take", "n"), [], [], ["n"], 0), True)
        self.assertIs(is_step(("take", "n"), ["n"], ["n"], [], 0), False)
        self.assertIs(is_step(("give", "n"), ["n"], ["n"], [], 0), False)
        self.assertIs(is_step(("put", "n", ONE), ["n"], [], ["n"], 0), False)

    def test_k_is_at_most_what_stands_behind(self):
        for behind in [0, 1, 2, 29]:
            for make in [lambda k: ("skip", k), lambda k: ("unless", ONE, k)]:
                self.yes(make(0), behind)
                self.yes(make(behind), behind)
                self.no(make(behind + 1), behind)
                self.no(make(-1), behind)
                self.no(make(True), behind)
                self.no(make(False), behind)

    def test_values_five_deep_and_six(self):
        for step, kinds in FORMS.items():
            for place, kind in enumerate(kinds, start=1):
                if kind == "value":
                    self.yes(step[:place] + (chain(ONE, 4),) + step[place + 1:])
                    self.no(step[:place] + (chain(ONE, 5),) + step[place + 1:])

    def test_what_is_nested_far_deeper_is_no_step(self):
        for times in [100, 50000]:
            for thing in [deep_tuple(times), deep_list(times), chain(ONE, times)]:
                self.no(thing)
                self.no((thing, "a", ONE))
                self.no(("set", thing, ONE))
                self.no(("set", "a", thing))
                self.no(("get", "a", thing))
                self.no(("take", thing))
                self.no(("skip", thing))

    def test_the_answer_is_always_a_truth(self):
        for step in FORMS:
            for thing in spoiled(step):
                self.assertIs(type(is_step(thing, OWNS, BOXES, LOCKS, 3)), bool)

    def test_what_is_handed_in_stays(self):
        owns, boxes, locks = ["b", "a"], ["y", "x"], ["m", "l"]
        for step in list(FORMS) + [["set", "a", ["own", "a"]], ("set", "a", ["own", "a"])]:
            kept = copy.deepcopy(step)
            is_step(step, owns, boxes, locks, 3)
            if step in list(FORMS):
                touched(step)
                apart(step, step)
            self.assertEqual(step, kept)
        self.assertEqual((owns, boxes, locks), (["b", "a"], ["y", "x"], ["m", "l"]))


class TouchedTest(unittest.TestCase):
    def test_what_each_of_the_ten_touches(self):
        told = [
            (("set", "a", OWN), None),
            (("get", "a", "x"), ("x", "read")),
            (("put", "x", OWN), ("x", "write")),
            (("add", "x", OWN), ("x", "add")),
            (("take", "l"), ("l", "lock")),
            (("give", "l"), ("l", "lock")),
            (("wait", "x", OWN), ("x", "read")),
            (("check", OWN), None),
            (("skip", 2), None),
            (("unless", OWN, 2), None),
        ]
        self.assertEqual([step for step, touch in told], list(FORMS))
        for step, touch in told:
            with self.subTest(step):
                self.assertEqual(touched(step), touch)
                if touch is not None:
                    self.assertIs(type(touched(step)), tuple)

    def test_get_touches_the_box_and_not_the_own(self):
        self.assertEqual(touched(("get", "n", "x")), ("x", "read"))
        self.assertEqual(touched(("get", "x", "n")), ("n", "read"))


def of_name(name):
    """The steps that touch something, on one name, with the way of each."""
    return [
        (("get", "a", name), "read"),
        (("wait", name, ONE), "read"),
        (("put", name, ONE), "write"),
        (("add", name, ONE), "add"),
        (("take", name), "lock"),
        (("give", name), "lock"),
    ]


def touching_nothing():
    return [("set", "a", ONE), ("check", ONE), ("skip", 0), ("unless", ONE, 0)]


class ApartTest(unittest.TestCase):
    def test_pairs_of_ways_on_the_same_name(self):
        for (one, way), (other, other_way) in itertools.product(of_name("n"), of_name("n")):
            with self.subTest(one=one, other=other):
                expected = (way, other_way) in [("read", "read"), ("add", "add")]
                self.assertIs(apart(one, other), expected)

    def test_pairs_written_out(self):
        get, put, add, take = ("get", "a", "n"), ("put", "n", ONE), ("add", "n", ONE), ("take", "n")
        wait, give = ("wait", "n", ONE), ("give", "n")
        for one, other in [(get, put), (get, add), (get, take), (put, put), (put, add), (put, take), (add, take),
                           (take, take), (wait, put), (wait, add), (wait, give), (give, take), (give, give)]:
            self.assertIs(apart(one, other), False)
            self.assertIs(apart(other, one), False)
        for one, other in [(get, get), (get, wait), (wait, wait), (add, add)]:
            self.assertIs(apart(one, other), True)
            self.assertIs(apart(other, one), True)

    def test_pairs_of_ways_on_unlike_names(self):
        for (one, way), (other, other_way) in itertools.product(of_name("n"), of_name("m")):
            with self.subTest(one=one, other=other):
                self.assertIs(apart(one, other), True)
                self.assertIs(apart(other, one), True)

    def test_owns_do_not_count(self):
        self.assertIs(apart(("get", "n", "x"), ("put", "n", ONE)), True)
        self.assertIs(apart(("set", "n", ONE), ("put", "n", ("own", "n"))), True)
        self.assertIs(apart(("get", "a", "n"), ("put", "n", ("own", "a"))), False)
        self.assertIs(apart(("get", "a", "n"), ("put", "n", ("own", "b"))), False)

    def test_what_touches_nothing_is_apart_from_all(self):
        every = touching_nothing() + [step for step, way in of_name("n")]
        for one in touching_nothing():
            for other in every:
                with self.subTest(one=one, other=other):
                    self.assertIs(apart(one, other), True)
                    self.assertIs(apart(other, one), True)


SIZE = 3


def done(state, worker, step):
    """The state behind a worker's step, None where it must wait: written here as 1.3 tells the steps."""
    boxes, holders, spots = copy.deepcopy(state)
    moves, owns = spots[worker]
    word = step[0]
    passed = 0
    if word == "set":
        owns[step[1]] = worth(step[2], SIZE, owns, {})
    if word == "get":
        owns[step[1]] = boxes[step[2]]
    if word == "put":
        boxes[step[1]] = worth(step[2], SIZE, owns, {})
    if word == "add":
        boxes[step[1]] = (boxes[step[1]] + worth(step[2], SIZE, owns, {})) % SIZE
    if word == "take":
        if holders[step[1]] != -1:
            return None
        holders[step[1]] = worker
    if word == "give":
        if holders[step[1]] == worker:
            holders[step[1]] = -1
        else:
            moves = "broke"
    if word == "wait" and boxes[step[1]] != worth(step[2], SIZE, owns, {}):
        return None
    if word == "check" and worth(step[1], SIZE, owns, {}) == 0:
        moves = "broke"
    if word == "skip":
        passed = step[1]
    if word == "unless" and worth(step[1], SIZE, owns, {}) == 0:
        passed = step[2]
    spots[worker] = (moves if moves == "broke" else moves + 1 + passed, owns)
    return (boxes, holders, spots)


def every_step():
    values = [ONE, ("own", "a")]
    steps = [("get", "a", "x"), ("get", "b", "y"), ("take", "l"), ("give", "l"), ("give", "m"), ("skip", 1)]
    for value in values:
        steps = steps + [("set", "a", value), ("put", "x", value), ("put", "y", value), ("add", "x", value),
                         ("add", "y", value), ("wait", "x", value), ("check", value), ("unless", value, 2)]
    return steps


def every_state():
    for x, y, mine, theirs in itertools.product(range(SIZE), [0, 2], range(SIZE), [0, 1]):
        for holder, other_holder in itertools.product([-1, 0, 1], [-1, 1]):
            yield ({"x": x, "y": y}, {"l": holder, "m": other_holder},
                   [(0, {"a": mine, "b": 0}), (0, {"a": theirs, "b": 1})])


class EitherOrderTest(unittest.TestCase):
    def test_steps_that_are_apart_come_to_the_same_in_either_order(self):
        compared = 0
        states = list(every_state())
        for one, other in itertools.product(every_step(), every_step()):
            if not apart(one, other):
                continue
            for state in states[::5]:
                behind_one = done(state, 0, one)
                behind_other = done(state, 1, other)
                if behind_one is None or behind_other is None:
                    continue
                compared += 1
                both = done(behind_one, 1, other)
                self.assertIsNotNone(both, (one, other, state))
                self.assertEqual(both, done(behind_other, 0, one), (one, other, state))
        self.assertGreater(compared, 1000)
