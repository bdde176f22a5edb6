import copy

from loomlook.errors import NoClaim, NoLoom, NoStep, NoText, NoWay, TooMany
from loomlook.folded import folded_way
from loomlook.judging import ends_by, verdict
from loomlook.reports import report
from loomlook.texts import read, step_words, written
from tests.helper import SMALLEST, HandedTest, chance_loom, crowd, first_of, idlers, paired_loom, stepped
from tests.helper import strange_things, with_part

LOOKINGS = ["plain", "lean", "folded", "both"]

RACE = """\
size 5
box x 0
box y 3
program adder
own a 0
get a x
put x plus own a number 1
worker adder
worker adder
claim same box x number 2
"""

RACE_REPORT = """\
wrong
1 adder get a x
2 adder get a x
1 adder put x plus own a number 1
2 adder put x plus own a number 1
box x 1
box y 3
"""

CROSSING = """\
size 2
lock l
lock m
program left
take l
take m
give m
give l
program right
take m
take l
give l
give m
worker right
worker left
"""

BREAKING = """\
size 4
box x 2
box it 0
lock l
program puts
put x number 9
program checks
own a 1
own x 0
take l
get x x
check not same own x number 1
give l
worker checks
worker puts
claim box it
"""

LOCKED = RACE.replace("box y 3\n", "box y 3\nlock l\n").replace("get a x\n", "take l\nget a x\n").replace(
    "number 1\nworker", "number 1\ngive l\nworker", 1)

# A text whose steps are of all ten words, and one that is stuck behind them.
ALL_STEPS = """\
size 16
box x 0
box yy 15
lock l
program every
own a 7
set a plus own a number 99
get a x
put x less own a number 1
add yy number 2
take l
give l
wait x number 1
check same own a number 0
skip 1
check number 0
unless not own a 0
unless own a 1
check number 0
wait yy minus number 0 number 0
worker every
"""


class ReportTest(HandedTest):
    def reports(self, text, told, looking="plain"):
        self.same(report(text, looking), told)


class WordsTest(ReportTest):
    def test_wrong(self):
        self.same(report(RACE), RACE_REPORT)
        self.reports(RACE, RACE_REPORT)
        self.reports(RACE, RACE_REPORT, "lean")

    def test_stuck(self):
        told = "stuck\n1 right take m\n2 left take l\n"
        self.same(report(CROSSING), told)
        for looking in LOOKINGS:
            self.reports(CROSSING, told, looking)

    def test_broken(self):
        told = ("broken\n1 checks take l\n2 puts put x number 9\n1 checks get x x\n"
                "1 checks check not same own x number 1\nbox x 1\nbox it 0\n")
        self.same(report(BREAKING), told)
        for looking in LOOKINGS:
            self.reports(BREAKING, told, looking)

    def test_good(self):
        self.same(report(LOCKED), "good\n2 ends\n")

    def test_how_many_ends_each_way_finds(self):
        # Which of the two goes first stays in their own numbers: but for their exchange it is the same end.
        for looking, many in zip(LOOKINGS, [2, 2, 1, 1]):
            self.reports(LOCKED, f"good\n{many} ends\n", looking)
        three = LOCKED.replace("claim", "worker adder\nclaim").replace("claim same box x number 2", "claim box x")
        for looking, many in zip(LOOKINGS, [6, 6, 1, 1]):
            self.reports(three, f"good\n{many} ends\n", looking)

    def test_two_figures(self):
        text = "size 16\nbox x 0\nprogram p\nown a 0\nget a x\nadd x number 1\n" + "worker p\n" * 4
        for looking in LOOKINGS:
            many = len(ends_by(read(text), looking))
            self.reports(text, f"good\n{many} ends\n", looking)
        self.assertGreater(len(ends_by(read(text), "plain")), 9)
        self.reports("size 16\nbox x 12\nprogram p\nadd x number 3\nworker p\nclaim number 0\n",
                     "wrong\n1 p add x number 3\nbox x 15\n")


class RowsTest(ReportTest):
    def test_no_steps(self):
        self.reports("size 2\nprogram p\nworker p\n", "good\n1 ends\n")
        for looking in LOOKINGS:
            self.reports("size 2\nbox x 1\nprogram p\nworker p\nworker p\nclaim number 2\n", "wrong\nbox x 1\n", looking)
            self.reports("size 2\nbox x 1\nprogram p\nwait x number 0\nworker p\n", "stuck\nbox x 1\n", looking)
            self.reports("size 2\nlock l\nprogram p\nworker p\nclaim number 0\n", "wrong\n", looking)

    def test_no_boxes(self):
        for looking in LOOKINGS:
            self.reports("size 2\nlock l\nprogram p\ngive l\nworker p\n", "broken\n1 p give l\n", looking)
            self.reports("size 2\nlock l\nprogram p\ntake l\ntake l\nworker p\n", "stuck\n1 p take l\n", looking)

    def test_all_the_boxes_in_their_order(self):
        boxes = [("h", 3), ("b", 0), ("abcdefgh", 1), ("a", 2), ("z", 3), ("c", 0), ("d", 1), ("x", 2)]
        rows = "".join(f"box {name} {number}\n" for name, number in boxes)
        self.reports("size 4\n" + rows + "program p\nworker p\nclaim box b\n", "wrong\n" + rows)

    def test_the_boxes_as_they_are_at_the_end(self):
        text = "size 4\nbox x 1\nbox y 2\nprogram p\nput x number 3\nadd y number 3\ncheck number 4\nworker p\n"
        self.reports(text, "broken\n1 p put x number 3\n1 p add y number 3\n1 p check number 4\nbox x 3\nbox y 1\n")

    def test_workers_from_1_and_the_names_of_their_programs(self):
        names = ["abcdefgh", "b", "cc", "a"]
        programs = "".join(f"program {name}\nadd x number 1\n" for name in names)
        workers = [3, 1, 0, 2, 1, 3]
        text = "size 9\nbox x 0\n" + programs + "".join(f"worker {names[number]}\n" for number in workers)
        rows = "".join(f"{number} {names[worker]} add x number 1\n" for number, worker in enumerate(workers, start=1))
        for looking in ["plain", "lean"]:
            self.reports(text + "claim not box x\n", "wrong\n" + rows + "box x 6\n", looking)

    def test_steps_of_all_words(self):
        told = """\
stuck
1 every set a plus own a number 99
1 every get a x
1 every put x less own a number 1
1 every add yy number 2
1 every take l
1 every give l
1 every wait x number 1
1 every check same own a number 0
1 every skip 1
1 every unless not own a 0
1 every unless own a 1
box x 1
box yy 1
"""
        for looking in LOOKINGS:
            self.reports(ALL_STEPS, told, looking)

    def test_a_step_that_breaks_is_told(self):
        self.reports("size 2\nprogram p\nskip 0\ncheck number 0\nskip 0\nworker p\n",
                     "broken\n1 p skip 0\n1 p check number 0\n")

    def test_each_row_has_its_line_end(self):
        for text in [RACE, CROSSING, BREAKING, LOCKED, ALL_STEPS]:
            for looking in LOOKINGS:
                told = report(text, looking)
                self.assertIs(type(told), str)
                self.assertTrue(told.endswith("\n"))
                rows = told[:-1].split("\n")
                self.assertEqual([" ".join(row.split()) for row in rows], rows)
                self.assertNotIn("", rows)


class TextsTest(ReportTest):
    def test_more_blanks_and_empty_rows(self):
        loose = "\n\n" + RACE.replace(" ", "   ").replace("\n", "  \n \n  ") + "\n  \n"
        for looking in LOOKINGS:
            self.same(report(loose, looking), report(RACE, looking))

    def test_the_last_line_end_is_missing(self):
        for text in [RACE, CROSSING, BREAKING, LOCKED]:
            self.same(report(text[:-1]), report(text))

    def test_again_and_end(self):
        text = "size 5\nbox x 0\nprogram p\nagain 3\nadd x number 2\nskip 0\nend\nagain 5\nend\nworker p\nclaim not box x\n"
        self.reports(text, "wrong\n" + "1 p add x number 2\n1 p skip 0\n" * 3 + "box x 1\n")

    def test_steps_are_told_as_they_are_written(self):
        text = "size 2\nprogram  p\n check   not  not number 0 \nworker p\n"
        self.reports(text, "broken\n1 p check not not number 0\n")

    def test_looms_written(self):
        self.reports(written(SMALLEST), "good\n1 ends\n")

    def test_many_looms(self):
        for loom in [paired_loom(seed) for seed in range(80)] + [chance_loom(seed) for seed in range(80)]:
            for looking in LOOKINGS:
                self.same(report(written(loom), looking), self.told(loom, looking))

    def told(self, loom, looking):
        """The report, told apart from the program by the verdict and the ends."""
        word, weaving = verdict(loom, looking)
        if word == "good":
            return f"good\n{len(ends_by(loom, looking))} ends\n"
        rows = [word]
        state = first_of(loom)
        for worker in weaving:
            name, owns, steps = loom[3][loom[4][worker]]
            rows.append(" ".join([str(worker + 1), name, step_words(steps[state[2][worker][0]])]))
            state = stepped(loom, state, worker)
        rows.extend(f"box {name} {number}" for (name, first), number in zip(loom[1], state[0]))
        return "".join(row + "\n" for row in rows)

    def test_the_folded_way_is_the_one_that_is_told(self):
        loom = read(RACE)
        end = [state for state in ends_by(loom, "folded") if state[0][0] == 1][0]
        for looking, lean in [("folded", False), ("both", True)]:
            rows = report(RACE, looking).split("\n")[1:5]
            self.assertEqual([int(row.split()[0]) - 1 for row in rows], folded_way(loom, end, lean))

    def test_the_same_again(self):
        for looking in LOOKINGS:
            kept = copy.deepcopy(RACE)
            self.same(report(RACE, looking), report(RACE, looking=looking))
            self.same(RACE, kept)


class RefusalsTest(ReportTest):
    GREAT = written(with_part(crowd(13, 2, 30), workers=(0, 1, 2, 2)))
    FAULTY = [
        (NoText, "size 05\nprogram p\nworker p\n"),
        (NoText, ""),
        (NoText, RACE + "lock l\n"),
        (NoText, RACE.replace("worker adder", "worker other", 1)),
        (NoLoom, RACE.replace("size 5", "size 3")),
        (NoLoom, RACE.replace("box y", "box x")),
        (NoLoom, "size 5\nprogram p\n"),
        (NoStep, RACE.replace("get a x", "get b x")),
        (NoStep, RACE.replace("get a x", "skip 2")),
        (NoClaim, RACE.replace("claim same", "claim not own a\nclaim same")),
        (NoClaim, RACE.replace("number 2", "box z")),
    ]

    def test_texts(self):
        for error, text in self.FAULTY:
            self.refused(error, report, text)
            for looking in LOOKINGS:
                self.refused(error, report, text, looking)

    def test_texts_ahead_of_ways(self):
        for error, text in self.FAULTY:
            for looking in ["", "Plain", None, 0, True, [], ["plain"]]:
                self.refused(error, report, text, looking)

    def test_ways(self):
        for looking in strange_things() + ["Plain", "plain ", ["plain"], ("plain",), "plain\n", LOOKINGS]:
            self.refused(NoWay, report, RACE, looking)

    def test_ways_ahead_of_too_many(self):
        for looking in ["", "Plain", None, 0, True, [], ["plain"]]:
            self.refused(NoWay, report, self.GREAT, looking)

    def test_too_many(self):
        self.refused(TooMany, report, self.GREAT)
        for looking in LOOKINGS:
            self.refused(TooMany, report, self.GREAT, looking)

    def test_too_many_by_some_ways_alone(self):
        text = written(idlers(*[30] * 6))
        self.refused(TooMany, report, text)
        self.refused(TooMany, report, text, "folded")
        self.reports(text, "good\n1 ends\n", "lean")
        self.reports(text, "good\n1 ends\n", "both")
        text = written(with_part(crowd(12, 2, 30), workers=(0, 1, 2, 2)))
        self.refused(TooMany, report, text)
        self.refused(TooMany, report, text, "lean")
        self.reports(text, "good\n1 ends\n", "folded")
        self.reports(text, "good\n1 ends\n", "both")

    def test_a_faulty_text_ahead_of_too_many(self):
        self.refused(NoStep, report, self.GREAT.replace("wait x", "wait z", 1))
        self.refused(NoText, report, self.GREAT + "claim\n")
        self.refused(NoClaim, report, self.GREAT + "claim box z\n")
