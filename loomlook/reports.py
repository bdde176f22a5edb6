"""Reports: what is told of a loom's text, as rows."""

from loomlook.judging import ends_by, verdict
from loomlook.looms import names_of
from loomlook.texts import read, step_words
from loomlook.weaving import told, woven


def report(text, looking="plain"):
    loom = read(text)
    pair = verdict(loom, looking)
    weaving = pair[1]
    rows = [pair[0]]
    if weaving is None:
        rows.append(ends_row(loom, looking))
    else:
        rows.extend([step_row(loom, worker, step) for worker, place, step in told(loom, weaving)])
        rows.extend(box_rows(loom, woven(loom, weaving)))
    return "".join([row + "\n" for row in rows])


def ends_row(loom, looking):
    number = len(ends_by(loom, looking))
    return f"{number} ends"


def step_row(loom, worker, step):
    # Workers are counted from 1 here, and from 0 everywhere else.
    number = worker + 1
    name = loom[3][loom[4][worker]][0]
    words = step_words(step)
    return f"{number} {name} {words}"


def box_rows(loom, state):
    return [f"box {name} {number}" for name, number in zip(names_of(loom[1]), state[0])]
