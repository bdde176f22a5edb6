"""Texts: a loom written as rows, and rows read to a loom."""

from loomlook.errors import NoText
from loomlook.feeds import Feed
from loomlook.looms import loom_of, names_of
from loomlook.rows import row_of, words_of
from loomlook.steps import STEP_PARTS

LEAST_TIMES = 1
MOST_TIMES = 5


def step_words(step):
    return " ".join(words_of(step))


def written(loom):
    programs = loom[3]
    rows = [("size", loom[0])]
    rows.extend([("box",) + box for box in loom[1]])
    rows.extend([("lock", lock) for lock in loom[2]])
    for name, owns, steps in programs:
        rows.append(("program", name))
        rows.extend([("own",) + own for own in owns])
        rows.extend(steps)
    rows.extend([("worker", programs[number][0]) for number in loom[4]])
    rows.extend([("claim", claim) for claim in loom[5]])
    return "".join([" ".join(words_of(row)) + "\n" for row in rows])


def read(text):
    # All rows are read before a loom is made of them, as NoText comes ahead of what loom_of refuses.
    rows = Feed([row_of(words) for words in worded_rows(text)])
    size = size_of(rows)
    boxes = tuple([row[1:] for row in drawn(rows, "box")])
    locks = tuple([row[1] for row in drawn(rows, "lock")])
    programs = programs_of(rows)
    names = names_of(programs)
    workers = tuple([number_of_program(row[1], names) for row in drawn(rows, "worker")])
    claims = tuple([row[1] for row in drawn(rows, "claim")])
    if not rows.is_empty():
        raise NoText("a row stands where it may not")
    return loom_of(size, boxes, locks, programs, workers, claims)


def worded_rows(text):
    rows = [words_in(row) for row in text.split("\n")]
    return [words for words in rows if words != []]


def words_in(row):
    # Blanks alone part words: a split without a sign would part them at tabs too.
    return [word for word in row.split(" ") if word != ""]


def word_ahead(rows):
    return None if rows.is_empty() else rows.ahead()[0]


def drawn(rows, word):
    found = []
    while word_ahead(rows) == word:
        found.append(rows.draw())
    return found


def size_of(rows):
    if word_ahead(rows) != "size":
        raise NoText("the first row tells no size")
    return rows.draw()[1]


def programs_of(rows):
    programs = []
    while word_ahead(rows) == "program":
        name = rows.draw()[1]
        owns = tuple([row[1:] for row in drawn(rows, "own")])
        programs.append((name, owns, tuple(steps_of(rows))))
    return tuple(programs)


def steps_of(rows):
    steps = plain_steps(rows)
    while word_ahead(rows) == "again":
        steps.extend(block_of(rows))
        steps.extend(plain_steps(rows))
    return steps


def plain_steps(rows):
    steps = []
    while word_ahead(rows) in STEP_PARTS:
        steps.append(rows.draw())
    return steps


def block_of(rows):
    times = rows.draw()[1]
    if not LEAST_TIMES <= times <= MOST_TIMES:
        raise NoText(f"again {times} is not from 1 to 5")
    steps = plain_steps(rows)
    if word_ahead(rows) != "end":
        raise NoText("a block holds more than steps, or has no end")
    rows.draw()
    return steps * times


def number_of_program(name, names):
    if name not in names:
        raise NoText(f"a worker is of {name}, which is no program")
    return names.index(name)
