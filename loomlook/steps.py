"""Steps: what one is, what it touches, and which two are apart."""

from loomlook.values import has_word, is_name_of, is_number, is_value

STEP_PARTS = {
    "set": ("own", "value"),
    "get": ("own", "box"),
    "put": ("box", "value"),
    "add": ("box", "value"),
    "take": ("lock",),
    "give": ("lock",),
    "wait": ("box", "value"),
    "check": ("value",),
    "skip": ("count",),
    "unless": ("value", "count"),
}

# Where in the step the touched name stands, and the way it is touched.
TOUCHES = {
    "get": (2, "read"),
    "put": (1, "write"),
    "add": (1, "add"),
    "take": (1, "lock"),
    "give": (1, "lock"),
    "wait": (1, "read"),
}

# Two of these on the same name come to the same in either order.
SHARED_WAYS = ("read", "add")


def is_step(thing, owns, boxes, locks, behind):
    if not has_word(thing):
        return False
    kinds = STEP_PARTS.get(thing[0])
    if kinds is None or len(thing) != 1 + len(kinds):
        return False
    return all([is_step_part(part, kind, owns, boxes, locks, behind) for part, kind in zip(thing[1:], kinds)])


def is_step_part(thing, kind, owns, boxes, locks, behind):
    if kind == "own":
        return is_name_of(thing, owns)
    if kind == "box":
        return is_name_of(thing, boxes)
    if kind == "lock":
        return is_name_of(thing, locks)
    if kind == "value":
        # Boxes are touched by the step's word alone, never by a value within it.
        return is_value(thing, owns, [])
    return is_number(thing, 0, behind)


def touched(step):
    touch = TOUCHES.get(step[0])
    if touch is None:
        return None
    return (step[touch[0]], touch[1])


def apart(step, other):
    mine = touched(step)
    theirs = touched(other)
    if mine is None or theirs is None or mine[0] != theirs[0]:
        return True
    return mine[1] == theirs[1] and mine[1] in SHARED_WAYS
