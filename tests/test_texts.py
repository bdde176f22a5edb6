import copy
import functools
import itertools
import re
import unittest

from loomlook.errors import NoClaim, NoLoom, NoStep, NoText
from loomlook.looms import loom_of
from loomlook.texts import read, step_words, written
from tests.helper import GREATEST, ORDINARY, SMALLEST, chain, chance_loom, kinds_of, letters, loom_with, with_part

ORDINARY_TEXT = """\
size 10
box x 0
box y 9
lock l
program adder
own a 0
own b 3
take l
get a x
set b plus own a number 1
unless less own b number 9 2
put x own b
add y number 99
give l
program watcher
wait x number 2
check number 1
skip 0
worker adder
worker watcher
worker adder
claim same box x number 2
claim not box y
"""

SMALLEST_TEXT = "size 2\nprogram p\nworker p\n"

# A text with each form of row in it, and with blocks, one of them without rows.
BLOCKS_TEXT = """\
size 7
box x 0
lock l
program p
own a 0
own b 6
take l
again 2
get a x
unless same own a number 1 1
put x plus own a number 12
end
give l
again 3
end
skip 0
program q
again 1
wait x not number 0
end
worker q
worker p
claim less number 0 box x
"""

STEP_WORDS = [
    (("set", "a", ("number", 3)), "set a number 3"),
    (("set", "a", ("minus", ("own", "a"), ("own", "b"))), "set a minus own a own b"),
    (("get", "a", "x"), "get a x"),
    (("put", "x", ("own", "a")), "put x own a"),
    (("add", "x", ("not", ("own", "b"))), "add x not own b"),
    (("take", "l"), "take l"),
    (("give", "l"), "give l"),
    (("wait", "x", ("same", ("number", 0), ("own", "a"))), "wait x same number 0 own a"),
    (("check", ("less", ("number", 10), ("number", 99))), "check less number 10 number 99"),
    (("skip", 0), "skip 0"),
    (("skip", 12), "skip 12"),
    (("unless", ("plus", ("own", "a"), ("number", 7)), 3), "unless plus own a number 7 3"),
    (("unless", ("number", 5), 29), "unless number 5 29"),
]

# Five deep on both sides, with each of the words.
DEEP = ("plus", ("minus", ("less", ("same", ("own", "a"), ("number", 1)), ("not", ("number", 20))), ("number", 3)),
        ("not", ("not", ("not", ("own", "b")))))
DEEP_WORDS = "plus minus less same own a number 1 not number 20 number 3 not not not own b"

WORDS_AS_NAMES = ["box", "own", "end", "again", "number", "program", "size", "lock", "worker", "claim", "set", "skip",
                  "plus", "not"]


def outcome(call):
    """What a call gives, or the class with which it refuses."""
    try:
        return call()
    except ValueError as e:
        return type(e)


# The forms of rows as one letter each: the order of rows can be told as one pattern over the letters.
NUMBER = "(0|[1-9][0-9]?)"
NAME = "([^ ]+)"
VALUE = "(.+)"
FORMS = {
    "S": [f"size {NUMBER}"], "B": [f"box {NAME} {NUMBER}"], "L": [f"lock {NAME}"], "P": [f"program {NAME}"],
    "O": [f"own {NAME} {NUMBER}"], "W": [f"worker {NAME}"], "C": [f"claim {VALUE}"], "A": ["again ([1-5])"],
    "E": ["end()"],
    "T": [f"(set) {NAME} {VALUE}", f"(get) {NAME} {NAME}", f"(put) {NAME} {VALUE}", f"(add) {NAME} {VALUE}",
          f"(take) {NAME}", f"(give) {NAME}", f"(wait) {NAME} {VALUE}", f"(check) {VALUE}", f"(skip) {NUMBER}",
          f"(unless) {VALUE} {NUMBER}"],
}
ORDER = "SB*L*(PO*(T|AT*E)*)*W*C*"


def value_ahead(words):
    """The value that words begin with, and the words behind it; LookupError where there is none."""
    word, rest = words[0], words[1:]
    if word == "number" and re.fullmatch(NUMBER, rest[0]):
        return (word, int(rest[0])), rest[1:]
    if word in ("own", "box"):
        return (word, rest[0]), rest[1:]
    if word not in ("plus", "minus", "less", "same", "not"):
        raise LookupError(word)
    one, rest = value_ahead(rest)
    if word == "not":
        return (word, one), rest
    other, rest = value_ahead(rest)
    return (word, one, other), rest


def value_told(text):
    try:
        value, rest = value_ahead(text.split(" "))
    except LookupError:
        return None
    return None if rest else value


@functools.cache
def row_told(row):
    """The row's letter and its parts, None where it is of no form."""
    row = re.sub(" +", " ", row.strip(" "))
    for letter, forms in FORMS.items():
        for form in forms:
            found = re.fullmatch(form, row)
            if found:
                kinds = re.findall(re.escape(NUMBER) + "|" + re.escape(NAME) + "|" + re.escape(VALUE) + r"|\(", form)
                parts = []
                for kind, part in zip(kinds, found.groups()):
                    number = kind == NUMBER or letter == "A"
                    parts.append(value_told(part) if kind == VALUE else int(part) if number else part)
                return None if None in parts else (letter, tuple(parts))
    return None


def told_of(text):
    """What reading gives, or the class with which it refuses: told apart from the program."""
    rows = [row_told(row) for row in text.split("\n") if row.strip(" ")]
    if None in rows or not re.fullmatch(ORDER, "".join(letter for letter, parts in rows)):
        return NoText
    told = {letter: [] for letter in FORMS}
    programs = []
    block = None
    for letter, parts in rows:
        told[letter].append(parts)
        if letter == "P":
            programs.append((parts[0], [], []))
        elif letter == "O":
            programs[-1][1].append(parts)
        elif letter == "A":
            block = (parts[0], len(programs[-1][2]))
        elif letter == "T":
            programs[-1][2].append(parts)
        elif letter == "E":
            times, start = block
            programs[-1][2].extend(programs[-1][2][start:] * (times - 1))
    names = [name for name, owns, steps in programs]
    if not all(parts[0] in names for parts in told["W"]):
        return NoText
    return outcome(lambda: loom_of(
        told["S"][0][0], tuple(told["B"]), tuple(name for name, in told["L"]),
        tuple((name, tuple(owns), tuple(steps)) for name, owns, steps in programs),
        tuple(names.index(name) for name, in told["W"]), tuple(value for value, in told["C"])))


class TextTest(unittest.TestCase):
    def comes_to(self, text, loom):
        self.assertEqual(kinds_of(read(text)), kinds_of(loom))

    def refused(self, text, error):
        try:
            read(text)
        except ValueError as e:
            self.assertIs(type(e), error, (text, str(e)))
        else:
            self.fail(("not refused", text))

    def no_text(self, *texts):
        for text in texts:
            self.refused(text, NoText)

    def steps_come_to(self, rows, steps, owns="", own_pairs=()):
        """The rows of one program come to the steps."""
        text = "size 5\nbox x 0\nlock l\nprogram p\n" + owns + rows + "worker p\n"
        self.comes_to(text, (5, (("x", 0),), ("l",), (("p", own_pairs, tuple(steps)),), (0,), ()))


def with_steps(rows):
    return "size 5\nbox x 0\nlock l\nprogram p\nown a 0\n" + rows + "worker p\n"


def with_claim(value):
    return "size 5\nbox x 0\nprogram p\nworker p\nclaim " + value + "\n"


class WrittenTest(TextTest):
    def test_ordinary_loom(self):
        self.assertEqual(written(ORDINARY), ORDINARY_TEXT)

    def test_as_few_as_may_be(self):
        self.assertEqual(written(SMALLEST), SMALLEST_TEXT)

    def test_as_many_as_may_be(self):
        rows = ["size 16"]
        rows += [f"box {name} 15" for name in "abcdefgh"]
        rows += [f"lock {name}" for name in "wxyz"]
        for name in ["aaaaaaaa", "bbbbbbbb", "cccccccc", "dddddddd"]:
            rows += [f"program {name}", "own a 15", "own b 15", "own c 15", "own d 15"]
            rows += ["set a not not not not own d"] * 29 + ["skip 0"]
        rows += [f"worker {name * 8}" for name in "abcdda"]
        rows += ["claim not not not not box h"] * 4
        self.assertEqual(written(GREATEST), "".join(row + "\n" for row in rows))

    def test_each_part_by_itself(self):
        self.assertEqual(written(with_part(SMALLEST, boxes=(("x", 1),))), "size 2\nbox x 1\nprogram p\nworker p\n")
        self.assertEqual(written(with_part(SMALLEST, locks=("l",))), "size 2\nlock l\nprogram p\nworker p\n")
        self.assertEqual(written(with_part(SMALLEST, claims=(("number", 1),))), SMALLEST_TEXT + "claim number 1\n")
        programs = (("p", (), ()), ("q", (("a", 1),), ()), ("r", (), (("skip", 0),)))
        self.assertEqual(written(with_part(SMALLEST, programs=programs, workers=(2, 1, 2))),
                         "size 2\nprogram p\nprogram q\nown a 1\nprogram r\nskip 0\nworker r\nworker q\nworker r\n")

    def test_each_step(self):
        for step, words in STEP_WORDS:
            self.assertEqual(step_words(step), words)
            loom = loom_with((step,) + (("skip", 0),) * 29, locks=("l",))
            self.assertEqual(written(loom).split("\n")[7:9], [words, "skip 0"])
        self.assertEqual({step[0] for step, words in STEP_WORDS},
                         {"set", "get", "put", "add", "take", "give", "wait", "check", "skip", "unless"})

    def test_each_value(self):
        told = {
            ("number", 0): "number 0", ("number", 9): "number 9", ("number", 10): "number 10",
            ("number", 99): "number 99", ("own", "a"): "own a", ("box", "x"): "box x",
            ("plus", ("box", "x"), ("number", 1)): "plus box x number 1",
            ("minus", ("box", "x"), ("number", 1)): "minus box x number 1",
            ("less", ("box", "x"), ("number", 1)): "less box x number 1",
            ("same", ("box", "x"), ("number", 1)): "same box x number 1",
            ("not", ("box", "x")): "not box x",
        }
        for value, words in told.items():
            self.assertEqual(step_words(("check", value)), "check " + words)
            if value != ("own", "a"):
                self.assertEqual(written(loom_with((), claims=(value,))).split("\n")[-2], "claim " + words)

    def test_values_five_deep(self):
        self.assertEqual(step_words(("check", DEEP)), "check " + DEEP_WORDS)
        self.assertEqual(step_words(("unless", DEEP, 7)), "unless " + DEEP_WORDS + " 7")
        for depth in range(1, 6):
            value = chain(("number", 4), depth - 1)
            self.assertEqual(step_words(("put", "x", value)), "put x " + "not " * (depth - 1) + "number 4")

    def test_names_that_are_words(self):
        for name in WORDS_AS_NAMES:
            loom = (3, ((name, 2),), ("l",), ((name, ((name, 1),), (("get", name, name),)),), (0,), (("box", name),))
            text = f"size 3\nbox {name} 2\nlock l\nprogram {name}\nown {name} 1\nget {name} {name}\nworker {name}\n"
            self.assertEqual(written(loom), text + f"claim box {name}\n")
            self.assertEqual(written((3, (), (name,), (("p", (), (("take", name),)),), (0,), ())),
                             f"size 3\nlock {name}\nprogram p\ntake {name}\nworker p\n")

    def test_numbers_of_one_and_two_figures(self):
        self.assertEqual(written(with_part(SMALLEST, size=9, boxes=(("x", 8), ("y", 0)))),
                         "size 9\nbox x 8\nbox y 0\nprogram p\nworker p\n")
        self.assertEqual(written(with_part(SMALLEST, size=16, boxes=(("x", 10), ("y", 15)))),
                         "size 16\nbox x 10\nbox y 15\nprogram p\nworker p\n")

    def test_asked_again_and_the_loom_stays(self):
        for loom in [ORDINARY, SMALLEST, GREATEST]:
            kept = copy.deepcopy(loom)
            first = written(loom)
            self.assertEqual(written(loom), first)
            self.assertIs(type(first), str)
            self.assertEqual(loom, kept)


class ReadTest(TextTest):
    def test_what_is_written_is_read(self):
        for loom in [ORDINARY, SMALLEST, GREATEST]:
            self.comes_to(written(loom), loom_of(*loom))
        for seed in range(300):
            loom = loom_of(*chance_loom(seed, 6, 30, 5))
            self.comes_to(written(loom), loom)

    def test_ordinary_texts(self):
        self.comes_to(ORDINARY_TEXT, ORDINARY)
        self.comes_to(SMALLEST_TEXT, SMALLEST)

    def test_each_step(self):
        for step, words in STEP_WORDS:
            behind = 0 if not isinstance(step[-1], int) else step[-1]
            self.steps_come_to(words + "\n" + "skip 0\n" * behind, [step] + [("skip", 0)] * behind,
                               "own a 0\nown b 4\n", (("a", 0), ("b", 4)))

    def test_values_five_deep(self):
        self.steps_come_to("check " + DEEP_WORDS + "\n", [("check", DEEP)], "own a 0\nown b 4\n", (("a", 0), ("b", 4)))

    def test_names_that_are_words(self):
        for name in WORDS_AS_NAMES:
            value = ("plus", ("own", name), ("minus", ("own", name), ("not", ("own", name))))
            steps = (("get", name, name), ("put", name, value), ("unless", value, 0), ("take", "l"))
            claim = ("less", ("box", name), ("not", ("box", name)))
            loom = loom_of(3, ((name, 2),), ("l",), ((name, ((name, 1),), steps),), (0,), (claim,))
            self.comes_to(written(loom), loom)
            loom = loom_of(3, (), (name,), (("p", (), (("take", name), ("give", name))),), (0,), ())
            self.comes_to(written(loom), loom)

    def test_more_blanks(self):
        for text, loom in [(ORDINARY_TEXT, ORDINARY), (SMALLEST_TEXT, SMALLEST)]:
            self.comes_to(text.replace(" ", "   "), loom)
            self.comes_to(text.replace("\n", "  \n"), loom)
            self.comes_to(" " + text.replace("\n", "\n    "), loom)
            self.comes_to(" " + text.replace(" ", "  ").replace("\n", " \n "), loom)

    def test_rows_without_words(self):
        for text, loom in [(ORDINARY_TEXT, ORDINARY), (SMALLEST_TEXT, SMALLEST)]:
            self.comes_to("\n\n" + text, loom)
            self.comes_to(text + "\n\n   ", loom)
            self.comes_to(text.replace("\n", "\n\n"), loom)
            self.comes_to(text.replace("\n", "\n  \n"), loom)

    def test_the_last_line_end_missing(self):
        self.comes_to(ORDINARY_TEXT[:-1], ORDINARY)
        self.comes_to(SMALLEST_TEXT[:-1], SMALLEST)
        self.comes_to(SMALLEST_TEXT[:-1] + " ", SMALLEST)

    def test_no_rows(self):
        self.no_text("", "\n", " ", "  \n\n \n")

    def test_rows_are_parted_by_line_ends_alone(self):
        self.no_text(SMALLEST_TEXT.replace("\n", " "), SMALLEST_TEXT.replace("\n", ";"))

    def test_tabs_part_no_words(self):
        for row in ["box\tx 0", "box x\t0", "\tbox x 0", "box x 0\t", "box x \t0", "\t", " \t ", "box x 0 \t"]:
            self.no_text("size 2\n" + row + "\nprogram p\nworker p\n")
        self.no_text(SMALLEST_TEXT + "\t", "\t" + SMALLEST_TEXT, SMALLEST_TEXT.replace(" ", "\t"))
        self.no_text(with_steps("skip 0\t\n"), with_steps("check\tnumber 1\n"), with_claim("number 1\t"))
        self.no_text("size 2\nprogram p\nworker p\t\n", "size\t2\nprogram p\nworker p\n")
        # By blanks alone: such a word is a word, and what may be any word is then refused as a name.
        self.refused("size 2\nbox x\t 0\nprogram p\nworker p\n", NoLoom)
        self.refused("size 2\nprogram p\t\nworker p\t\n", NoLoom)
        self.refused(with_steps("take l\t\n"), NoStep)

    def test_what_is_handed_in_stays_and_is_read_again(self):
        first = read(BLOCKS_TEXT)
        self.no_text(BLOCKS_TEXT + "box x 0\n")
        self.comes_to(BLOCKS_TEXT, first)


class NumbersTest(TextTest):
    BAD = ["00", "01", "05", "007", "100", "123", "000", "+1", "-1", "+0", "-0", "1.", "1_0", "0x1", "1e", "a", "x1",
           "\u0661", "\u00b2", "\uff11", "1\u0661", "''", "10+", "1,", "", "99999999999999999999", "1" * 6000]

    def rows_with(self, number):
        yield f"size {number}\nprogram p\nworker p\n"
        yield f"size 5\nbox x {number}\nprogram p\nworker p\n"
        yield f"size 5\nprogram p\nown a {number}\nworker p\n"
        yield with_steps(f"skip {number}\n" + "skip 0\n" * 12)
        yield with_steps(f"unless own a {number}\n" + "skip 0\n" * 12)
        yield with_steps(f"check number {number}\n")
        yield with_steps(f"unless number {number} 1\nskip 0\n")
        yield with_claim(f"number {number}")
        yield with_claim(f"plus number 1 number {number}")
        yield with_steps(f"again {number}\nskip 0\nend\n")

    def test_numbers_that_are_not_written_so(self):
        for number in self.BAD:
            self.no_text(*self.rows_with(number))

    def test_numbers_that_are(self):
        for number in [0, 1, 9, 10, 50, 90, 99]:
            for text in self.rows_with(str(number)):
                self.assertEqual(outcome(lambda: read(text)), told_of(text), text)
            self.steps_come_to(f"check number {number}\n", [("check", ("number", number))])

    def test_numbers_beyond_what_a_loom_may_have(self):
        for size in [0, 1, 17, 99]:
            self.refused(f"size {size}\nprogram p\nworker p\n", NoLoom)
        self.refused("size 5\nbox x 5\nprogram p\nworker p\n", NoLoom)
        self.refused("size 5\nprogram p\nown a 99\nworker p\n", NoLoom)
        self.refused(with_steps("skip 1\n"), NoStep)
        self.refused(with_steps("unless own a 13\n" + "skip 0\n" * 12), NoStep)


class RowsTest(TextTest):
    """Rows taken out, told twice, put elsewhere, words less or more or others."""

    TEXTS = [ORDINARY_TEXT, BLOCKS_TEXT, SMALLEST_TEXT, "size 3\nbox z 1\nprogram p\nworker p\nclaim box z\n"]
    WORDS = ["0", "1", "6", "12", "00", "100", "-1", "a", "b", "x", "l", "p", "q", "A", "abcdefghi", "box", "own",
             "number", "not", "plus", "end", "again", "program", "size", "skip", "take", "a\tb"]

    def as_told(self, text):
        got = outcome(lambda: read(text))
        told = told_of(text)
        self.assertEqual(kinds_of(got), kinds_of(told), text)
        return told if isinstance(told, type) else "read"

    def all_as_told(self, texts, *met):
        counts = {}
        for text in texts:
            told = self.as_told(text)
            counts[told] = counts.get(told, 0) + 1
        for each in met:
            self.assertGreater(counts.get(each, 0), 0, counts)

    def changed(self, change):
        for text in self.TEXTS:
            rows = text.split("\n")[:-1]
            for place in range(len(rows)):
                for other in change(rows, place):
                    yield "".join(row + "\n" for row in other)

    def test_the_texts_as_they_are(self):
        for text in self.TEXTS:
            self.assertEqual(self.as_told(text), "read")

    def test_each_row_taken_out(self):
        def without(rows, place):
            yield rows[:place] + rows[place + 1:]
        self.all_as_told(self.changed(without), NoText, NoLoom, NoStep, NoClaim, "read")

    def test_each_row_told_twice(self):
        def twice(rows, place):
            yield rows[:place + 1] + rows[place:]
        self.all_as_told(self.changed(twice), NoText, NoLoom, "read")

    def test_each_row_put_elsewhere(self):
        def moved(rows, place):
            rest = rows[:place] + rows[place + 1:]
            for other in range(len(rows)):
                yield rest[:other] + [rows[place]] + rest[other:]
        self.all_as_told(self.changed(moved), NoText, NoStep, "read")

    def test_each_word_taken_out_or_told_twice(self):
        def others(rows, place):
            words = rows[place].split(" ")
            for at in range(len(words)):
                for less in (words[:at] + words[at + 1:], words[:at + 1] + words[at:]):
                    yield rows[:place] + [" ".join(less)] + rows[place + 1:]
        self.all_as_told(self.changed(others), NoText, "read")

    def test_each_word_replaced_or_another_put_ahead_of_it(self):
        def others(rows, place):
            words = rows[place].split(" ")
            for word in self.WORDS:
                for at in range(len(words)):
                    for more in (words[:at] + [word] + words[at + 1:], words[:at] + [word] + words[at:]):
                        yield rows[:place] + [" ".join(more)] + rows[place + 1:]
                yield rows[:place] + [rows[place] + " " + word] + rows[place + 1:]
        self.all_as_told(self.changed(others), NoText, NoLoom, NoStep, NoClaim, "read")

    def test_the_first_row_tells_the_size(self):
        self.no_text("program p\nworker p\n", "program p\nworker p\nsize 2\n", "box x 0\n" + SMALLEST_TEXT,
                     "size 2\n" + SMALLEST_TEXT, SMALLEST_TEXT + "size 2\n", "size 2\nsize 3\nprogram p\nworker p\n")

    def test_rows_out_of_their_order(self):
        self.no_text("size 2\nlock l\nbox x 0\nprogram p\nworker p\n",
                     "size 2\nprogram p\nbox x 0\nworker p\n",
                     "size 2\nprogram p\nlock l\nworker p\n",
                     "size 2\nprogram p\nworker p\nprogram q\n",
                     "size 2\nprogram p\nclaim number 1\nworker p\n",
                     "size 2\nworker p\nprogram p\n",
                     "size 2\nown a 0\nprogram p\nworker p\n",
                     "size 2\nskip 0\nprogram p\nworker p\n",
                     "size 2\nprogram p\nskip 0\nown a 0\nworker p\n",
                     "size 2\nprogram p\nworker p\nskip 0\n",
                     "size 2\nprogram p\nworker p\nown a 0\n",
                     SMALLEST_TEXT + "claim number 1\nworker p\n")

    def test_parts_that_are_lacking_or_too_many_are_left_to_loom_of(self):
        self.refused("size 2\n", NoLoom)
        self.refused("size 2\nprogram p\n", NoLoom)
        self.refused("size 2\n" + "".join(f"box {name} 0\n" for name in letters(9)) + "program p\nworker p\n", NoLoom)
        self.refused("size 2\n" + "".join(f"lock {name}\n" for name in letters(5)) + "program p\nworker p\n", NoLoom)
        self.refused("size 2\n" + "".join(f"program {name}\n" for name in letters(5)) + "worker a\n", NoLoom)
        self.refused("size 2\nprogram p\n" + "".join(f"own {name} 0\n" for name in letters(5)) + "worker p\n", NoLoom)
        self.refused("size 2\nprogram p\n" + "worker p\n" * 7, NoLoom)
        self.refused(SMALLEST_TEXT + "claim number 1\n" * 5, NoLoom)
        self.refused("size 2\nbox x 0\nbox x 0\nprogram p\nworker p\n", NoLoom)

    def test_rows_of_no_form(self):
        for row in ["Box x 0", "boxes x 0", "hold l", "number 1", "plus number 1 number 2", "not number 1", "x", "0",
                    "#", "# box x 0", "box x 0 # a", "lock", "lock l m", "program", "program p q", "own a", "own a 0 0",
                    "worker", "worker p p", "claim", "claim x", "claim 1", "claim plus number 1", "claim number",
                    "claim number 1 number 2", "claim set a number 1", "size", "size 2 3", "end", "again", "again 2 2",
                    "set a", "set a 1", "set number 1", "get a", "get a x x", "get a box x", "put x", "put x x",
                    "add x 1", "take", "take l l", "take lock l", "give", "wait x", "wait number 1", "check",
                    "check a", "skip", "skip 0 0", "unless", "unless number 0", "unless 0 number 0", "unless 0"]:
            self.no_text("size 2\n" + row + "\nprogram p\nworker p\n", "size 2\nprogram p\n" + row + "\nworker p\n",
                         SMALLEST_TEXT + row + "\n")


class BlocksTest(TextTest):
    SKIP = ("skip", 0)

    def test_again_of_one_to_five(self):
        for times in range(1, 6):
            self.steps_come_to(f"again {times}\nskip 0\ntake l\nend\n", [self.SKIP, ("take", "l")] * times)
            self.steps_come_to(f"give l\nagain {times}\ntake l\nend\nskip 0\n",
                               [("give", "l")] + [("take", "l")] * times + [self.SKIP])

    def test_again_of_others(self):
        for times in ["0", "6", "7", "10", "99", "05", "100", "-1", "", "x", "1 1"]:
            self.no_text(with_steps(f"again {times}\nskip 0\nend\n"), with_steps(f"again {times}\nend\n"))

    def test_a_block_without_rows(self):
        for times in [1, 5]:
            self.steps_come_to(f"again {times}\nend\n", [])
            self.steps_come_to(f"take l\nagain {times}\n\n  \nend\nskip 0\n", [("take", "l"), self.SKIP])

    def test_several_blocks(self):
        self.steps_come_to("again 2\ntake l\nend\nagain 3\ngive l\nend\nskip 0\nagain 1\nskip 0\nend\n",
                           [("take", "l")] * 2 + [("give", "l")] * 3 + [self.SKIP] * 2)

    def test_a_block_in_a_block(self):
        self.no_text(with_steps("again 2\nagain 2\nskip 0\nend\nend\n"), with_steps("again 2\nagain 2\nskip 0\nend\n"),
                     with_steps("again 2\nskip 0\nagain 1\nend\n"))

    def test_end_without_again(self):
        self.no_text(with_steps("end\n"), with_steps("skip 0\nend\n"), with_steps("again 2\nskip 0\nend\nend\n"))
        self.no_text(SMALLEST_TEXT + "end\n", "end\n" + SMALLEST_TEXT)

    def test_again_without_end(self):
        self.no_text(with_steps("again 2\n"), with_steps("again 2\nskip 0\n"), with_steps("again 2\nend\nagain 2\n"))
        self.no_text("size 2\nprogram p\nagain 2", "size 2\nprogram p\nskip 0\nagain 2\nskip 0\n")

    def test_rows_that_may_not_stand_in_a_block(self):
        for row in ["own a 0", "program q", "worker p", "claim number 1", "box x 0", "lock l", "size 2"]:
            self.no_text(with_steps("again 2\n" + row + "\nend\n"), with_steps("again 2\nskip 0\n" + row + "\nend\n"))

    def test_blocks_stand_among_steps_alone(self):
        block = "again 2\nend\n"
        self.no_text(block + SMALLEST_TEXT, "size 2\n" + block + "program p\nworker p\n", SMALLEST_TEXT + block,
                     "size 2\nprogram p\n" + block + "own a 0\nworker p\n", SMALLEST_TEXT + "claim number 1\n" + block)

    def test_k_counts_the_steps_as_they_come(self):
        # Over the block's end, into the next time round.
        self.steps_come_to("again 2\nskip 1\ntake l\nend\n", [("skip", 1), ("take", "l")] * 2)
        self.steps_come_to("again 2\ntake l\nskip 1\nend\nskip 0\n", [("take", "l"), ("skip", 1)] * 2 + [self.SKIP])
        self.steps_come_to("again 2\nskip 3\ntake l\nend\nskip 0\nskip 0\n",
                           [("skip", 3), ("take", "l")] * 2 + [self.SKIP] * 2)
        self.steps_come_to("skip 10\nagain 5\ntake l\ngive l\nend\n", [("skip", 10)] + [("take", "l"), ("give", "l")] * 5)
        self.steps_come_to("again 2\nunless number 0 1\ntake l\nend\n", [("unless", ("number", 0), 1), ("take", "l")] * 2)
        # The last time round there are too few steps behind it.
        self.refused(with_steps("again 2\ntake l\nskip 1\nend\n"), NoStep)
        self.refused(with_steps("again 3\nskip 2\ntake l\nend\n"), NoStep)
        self.refused(with_steps("again 2\nunless own a 2\ntake l\nend\nagain 4\nend\n"), NoStep)
        self.refused(with_steps("skip 11\nagain 5\ntake l\ngive l\nend\n"), NoStep)

    def test_as_many_steps_as_come(self):
        self.steps_come_to("again 5\n" + "skip 0\n" * 6 + "end\n", [self.SKIP] * 30)
        self.refused(with_steps("again 5\n" + "skip 0\n" * 6 + "end\nskip 0\n"), NoLoom)
        self.refused(with_steps("again 5\n" + "skip 0\n" * 7 + "end\n"), NoLoom)
        self.refused(with_steps("skip 0\n" * 31), NoLoom)
        self.refused(with_steps("again 2\n" + "skip 0\n" * 15 + "end\nagain 1\ntake zz\nend\n"), NoLoom)


class WorkersTest(TextTest):
    def test_a_worker_of_no_program(self):
        self.no_text("size 2\nprogram p\nworker q\n", "size 2\nprogram p\nworker p\nworker P\n",
                     "size 2\nworker p\n", "size 2\nbox x 0\nlock l\nprogram p\nown a 0\nworker x\n",
                     "size 2\nbox x 0\nlock l\nprogram p\nworker l\n", "size 2\nprogram p\nworker 0\n")

    def test_workers_are_numbers_of_programs(self):
        loom = read("size 2\nprogram q\nprogram p\nprogram r\nworker r\nworker q\nworker p\nworker r\n")
        self.assertEqual(loom[4], (2, 0, 1, 2))

    def test_two_programs_of_one_name(self):
        self.refused("size 2\nprogram p\nprogram p\nworker p\n", NoLoom)
        self.refused("size 2\nprogram p\nprogram q\nprogram p\nskip 5\nworker q\n", NoLoom)
        # A worker of no program comes ahead of it.
        self.no_text("size 2\nprogram p\nprogram p\nworker q\n")

    def test_a_name_may_be_any_word(self):
        for name in ["P", "p1", "abcdefghi", "0", "-", "p,q", "~"]:
            self.refused(f"size 2\nprogram {name}\nworker {name}\n", NoLoom)
            self.refused(f"size 2\nbox {name} 0\nprogram p\nworker p\n", NoLoom)
            self.refused(f"size 2\nlock {name}\nprogram p\nworker p\n", NoLoom)
            self.refused(f"size 2\nprogram p\nown {name} 0\nworker p\n", NoLoom)
            for row in [f"set {name} number 1", f"get a {name}", f"put {name} own a", f"take {name}", f"give {name}",
                        f"check own {name}", f"check box {name}", f"wait {name} number 0", f"add {name} number 0"]:
                self.refused(with_steps(row + "\n"), NoStep)
            self.refused(with_claim("box " + name), NoClaim)
            self.refused(with_claim("own " + name), NoClaim)


class DeepTest(TextTest):
    def test_values_however_deep(self):
        for times in [5, 6, 100, 149, 150, 1000, 10000]:
            for value in ["not " * times + "number 1", "plus number 1 " * times + "number 1",
                          "plus " * times + "number 1" + " number 1" * times]:
                self.refused(with_claim(value), NoClaim)
                self.refused(with_steps("check " + value + "\n"), NoStep)
                self.refused(with_steps("unless " + value + " 0\n"), NoStep)
                self.no_text(with_claim(value + " number 1"), with_claim(value[:-2]), with_claim("not " + value[:-9]))
                self.no_text(with_steps("unless " + value + "\n"))

    def test_four_around_a_value_are_read(self):
        self.comes_to(with_claim("not " * 4 + "box x"),
                      (5, (("x", 0),), (), (("p", (), ()),), (0,), (chain(("box", "x"), 4),)))

    def test_parts_come_in_their_order(self):
        words = "minus less number 1 number 2 same number 3 minus number 4 number 5"
        value = ("minus", ("less", ("number", 1), ("number", 2)),
                 ("same", ("number", 3), ("minus", ("number", 4), ("number", 5))))
        self.comes_to(with_claim(words), (5, (("x", 0),), (), (("p", (), ()),), (0,), (value,)))


class OrderTest(TextTest):
    NO_TEXTS = ["end\n", "?", "worker q\n", "size 5\n", "again 0\nend\n"]

    def test_refusals_in_their_order(self):
        faults = itertools.product(["", "box x 9\n"], ["", "skip 1\n"], ["", "claim own a\n"])
        for no_loom, no_step, no_claim in faults:
            text = "size 5\n" + no_loom + "program p\n" + no_step + "worker p\n" + no_claim
            if text != "size 5\nprogram p\nworker p\n":
                self.refused(text, NoLoom if no_loom else NoStep if no_step else NoClaim)
            for row in self.NO_TEXTS:
                self.no_text(text + row, row + text, text.replace("worker p\n", row))
            self.no_text(text.replace("worker p\n", "worker p\nworker q\n"), text.replace("size 5", "size 05"))
