import copy
import unittest

from loomlook.values import is_name, is_value, worth
from tests.helper import chain, deep_list, deep_tuple, spoiled, strange_things

ONE = ("number", 1)
TWO_PARTED = ["plus", "minus", "less", "same"]


def leaning(word, times, left):
    """A value whose depth lies on one side alone."""
    value = ONE
    for turn in range(times):
        value = (word, value, ONE) if left else (word, ONE, value)
    return value


def depth_told(thing, owns, boxes):
    """How deep a thing stands as a value, 0 where it is none at whatever depth: told apart from the program."""
    if type(thing) is not tuple:
        return 0
    if len(thing) == 2 and type(thing[0]) is str and thing[0] in ("number", "own", "box"):
        good = {
            "number": type(thing[1]) is int and thing[1] in range(100),
            "own": type(thing[1]) is str and thing[1] in owns,
            "box": type(thing[1]) is str and thing[1] in boxes,
        }
        return 1 if good[thing[0]] else 0
    if thing[:1] == ("not",) and len(thing) == 2:
        below = [depth_told(thing[1], owns, boxes)]
    elif len(thing) == 3 and type(thing[0]) is str and thing[0] in TWO_PARTED:
        below = [depth_told(part, owns, boxes) for part in thing[1:]]
    else:
        return 0
    return 0 if 0 in below else 1 + max(below)


class NameTest(unittest.TestCase):
    def test_one_to_eight_letters_are_a_name(self):
        for name in ["a", "z", "m", "ab", "name", "seven", "abcdefgh", "zzzzzzzz", "type"]:
            with self.subTest(name):
                self.assertIs(is_name(name), True)

    def test_no_letters_and_nine_are_no_name(self):
        for text in ["", "abcdefghi", "z" * 9, "a" * 1000]:
            with self.subTest(text):
                self.assertIs(is_name(text), False)

    def test_every_other_sign_makes_no_name(self):
        others = [chr(code) for code in range(32, 127) if not 97 <= code <= 122] + ["\t", "\n"]
        for sign in others:
            for text in [sign, "a" + sign, sign + "a", "a" + sign + "z"]:
                with self.subTest(text=text):
                    self.assertIs(is_name(text), False)

    def test_great_letters_and_figures_make_no_name(self):
        for text in ["A", "Z", "Ab", "aB", "0", "a0", "9a", "a b", " a", "a ", "a_b"]:
            with self.subTest(text):
                self.assertIs(is_name(text), False)

    def test_what_is_no_text_is_no_name(self):
        for thing in [0, 1, True, False, None, [], ["a"], (), ("a",), deep_tuple(500), deep_list(500)]:
            with self.subTest(str(thing)[:20]):
                self.assertIs(is_name(thing), False)


class ValueTest(unittest.TestCase):
    def yes(self, thing, owns=("a", "b"), boxes=("x", "y")):
        self.assertIs(is_value(thing, list(owns), list(boxes)), True, thing)

    def no(self, thing, owns=("a", "b"), boxes=("x", "y")):
        self.assertIs(is_value(thing, list(owns), list(boxes)), False)

    def test_each_form_is_a_value(self):
        for thing in [ONE, ("own", "a"), ("own", "b"), ("box", "x"), ("box", "y"), ("not", ONE)]:
            self.yes(thing)
        for word in TWO_PARTED:
            self.yes((word, ("own", "a"), ("box", "x")))
            self.yes((word, ("box", "y"), ONE))

    def test_numbers_from_0_to_99(self):
        for number in range(100):
            self.yes(("number", number))
        for thing in [-1, 100, 101, -99, 10 ** 40, True, False, None, "1", "", [1], (1,)]:
            self.no(("number", thing))

    def test_lists_are_no_values_at_any_place(self):
        for thing in [["number", 1], ["own", "a"], ["box", "x"], ["not", ONE], ["plus", ONE, ONE]]:
            self.no(thing)
            self.no(("not", thing))
            for word in TWO_PARTED:
                self.no((word, thing, ONE))
                self.no((word, ONE, thing))

    def test_a_part_less_or_more(self):
        for thing in [ONE, ("own", "a"), ("box", "x"), ("not", ONE)] + [(word, ONE, ONE) for word in TWO_PARTED]:
            self.yes(thing)
            self.no(thing[:-1])
            self.no(thing + (thing[-1],))
            self.no(thing[:1])
            self.no(thing[1:])
        self.no(())

    def test_the_first_part_must_be_one_of_the_words(self):
        for first in strange_things() + ["Number", "number ", "plusses", "take", "times"]:
            if first not in ("number", "own", "box"):
                self.no((first, 1))
                self.no((first, "a"))
            if first not in TWO_PARTED:
                self.no((first, ONE, ONE))
            self.no((first, ONE))
            self.no((first,))

    def test_a_name_counts_in_its_own_list_alone(self):
        self.no(("own", "x"))
        self.no(("box", "a"))
        self.yes(("own", "n"), owns=["n"], boxes=[])
        self.no(("own", "n"), owns=[], boxes=["n"])
        self.no(("box", "n"), owns=["n"], boxes=[])
        self.yes(("box", "n"), owns=[], boxes=["n"])
        self.no(("plus", ("own", "n"), ("box", "n")), owns=["n"], boxes=[])
        self.no(("plus", ("own", "n"), ("box", "n")), owns=[], boxes=["n"])

    def test_an_own_may_be_called_like_a_box(self):
        self.yes(("plus", ("own", "n"), ("box", "n")), owns=["n"], boxes=["n"])

    def test_what_stands_for_a_name_must_be_one(self):
        for thing in [0, True, None, "", "A", ["a"], ("a",), "abcdefghi", "c"]:
            self.no(("own", thing))
            self.no(("box", thing))

    def test_five_deep_is_a_value_and_six_is_none(self):
        for leaf in [ONE, ("own", "a"), ("box", "x")]:
            self.yes(chain(leaf, 4))
            self.no(chain(leaf, 5))
        for word in TWO_PARTED:
            for left in [True, False]:
                self.yes(leaning(word, 4, left))
                self.no(leaning(word, 5, left))

    def test_a_full_value_of_five_deep(self):
        value = ONE
        for word in TWO_PARTED:
            value = (word, value, value)
        self.yes(value)
        self.no(("not", value))
        self.no(("plus", ONE, value))

    def test_what_is_nested_far_deeper_is_no_value(self):
        for times in [100, 1000, 50000]:
            for thing in [deep_tuple(times), deep_list(times), chain(ONE, times), leaning("plus", times, True),
                          leaning("same", times, False)]:
                self.no(thing)
                self.no(("not", thing))
                self.no(("number", thing))
                self.no(("own", thing))
                self.no(("box", thing))
                self.no((thing, ONE, ONE))
                self.no(("less", ONE, thing))

    def test_strange_things_are_no_values(self):
        for thing in strange_things():
            told = depth_told(thing, ["a", "b"], ["x", "y"]) in range(1, 6)
            self.assertIs(is_value(thing, ["a", "b"], ["x", "y"]), told)

    def test_every_part_replaced(self):
        value = ("plus", ("not", ("own", "a")), ("less", ("box", "x"), ("number", 99)))
        self.yes(value)
        met = {True: 0, False: 0}
        for thing in spoiled(value):
            told = depth_told(thing, ["a", "b"], ["x", "y"]) in range(1, 6)
            self.assertIs(is_value(thing, ["a", "b"], ["x", "y"]), told)
            met[told] += 1
        self.assertGreater(met[True], 10)
        self.assertGreater(met[False], 100)


class WorthTest(unittest.TestCase):
    def test_a_number_is_taken_by_its_rest(self):
        for size in range(2, 17):
            for number in range(100):
                self.assertEqual(worth(("number", number), size, {}, {}), number % size)
        self.assertEqual(worth(("number", 99), 2, {}, {}), 1)
        self.assertEqual(worth(("number", 99), 16, {}, {}), 3)

    def test_an_own_and_a_box_come_to_what_they_have(self):
        for size in [2, 16]:
            for number in range(size):
                self.assertEqual(worth(("own", "a"), size, {"a": number, "b": 0}, {}), number)
                self.assertEqual(worth(("box", "x"), size, {}, {"x": number, "y": 0}), number)

    def test_an_own_and_a_box_called_alike(self):
        owns = {"n": 3}
        boxes = {"n": 5}
        self.assertEqual(worth(("own", "n"), 16, owns, boxes), 3)
        self.assertEqual(worth(("box", "n"), 16, owns, boxes), 5)
        self.assertEqual(worth(("minus", ("box", "n"), ("own", "n")), 16, owns, boxes), 2)

    def test_one_minus_two_by_five_is_four(self):
        self.assertEqual(worth(("minus", ("number", 1), ("number", 2)), 5, {}, {}), 4)

    def test_two_parted_values_of_all_numbers(self):
        for size in [2, 3, 5, 16]:
            for one in range(size):
                for other in range(size):
                    comes_to = {
                        "plus": one + other if one + other < size else one + other - size,
                        "minus": one - other if one >= other else one - other + size,
                        "less": int(one < other),
                        "same": int(one == other),
                    }
                    for word, number in comes_to.items():
                        value = (word, ("own", "a"), ("box", "x"))
                        self.assertEqual(worth(value, size, {"a": one}, {"x": other}), number, (value, size))

    def test_less_and_same_take_numbers_by_their_rest(self):
        self.assertEqual(worth(("same", ("number", 7), ("number", 2)), 5, {}, {}), 1)
        self.assertEqual(worth(("less", ("number", 7), ("number", 3)), 5, {}, {}), 1)
        self.assertEqual(worth(("less", ("number", 3), ("number", 7)), 5, {}, {}), 0)

    def test_not(self):
        self.assertEqual(worth(("not", ("number", 0)), 16, {}, {}), 1)
        for number in range(1, 16):
            self.assertEqual(worth(("not", ("number", number)), 16, {}, {}), 0)
        self.assertEqual(worth(("not", ("number", 16)), 16, {}, {}), 1)
        self.assertEqual(worth(("not", ("number", 1)), 2, {}, {}), 0)

    def test_the_answer_is_a_whole_number_and_no_truth(self):
        for word in TWO_PARTED:
            for number in [0, 1]:
                self.assertIs(type(worth((word, ONE, ("number", number)), 7, {}, {})), int)
        self.assertIs(type(worth(("not", ONE), 7, {}, {})), int)

    def test_values_within_values(self):
        inner = ("plus", ("own", "a"), ("number", 9))
        value = ("minus", ("not", ("less", inner, ("box", "x"))), ("same", inner, inner))
        self.assertEqual(worth(value, 10, {"a": 4}, {"x": 4}), 9)
        self.assertEqual(worth(value, 10, {"a": 4}, {"x": 3}), 0)
        self.assertEqual(worth(chain(ONE, 4), 2, {}, {}), 1)
        self.assertEqual(worth(chain(ONE, 3), 2, {}, {}), 0)

    def test_what_is_handed_in_stays(self):
        owns = {"a": 1, "b": 2}
        boxes = {"x": 3}
        value = ("plus", ("minus", ("own", "a"), ("own", "b")), ("not", ("box", "x")))
        kept = copy.deepcopy((value, owns, boxes))
        for turn in range(2):
            self.assertEqual(worth(value, 16, owns, boxes), 15)
        self.assertEqual((value, owns, boxes), kept)
        self.assertEqual(list(owns), ["a", "b"])

    def test_lists_handed_to_is_value_stay(self):
        owns = ["b", "a"]
        boxes = ["y", "x"]
        for thing in [("own", "a"), ["own", "a"], ("box", "c"), ("not", ["number", 1])]:
            kept = copy.deepcopy(thing)
            is_value(thing, owns, boxes)
            is_name(thing)
            self.assertEqual(thing, kept)
        self.assertEqual((owns, boxes), (["b", "a"], ["y", "x"]))
