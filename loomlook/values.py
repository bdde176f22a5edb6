"""Names and values: what one is, and what a value comes to."""

LONGEST_NAME = 8
GREATEST_NUMBER = 99
DEEPEST_VALUE = 5

VALUE_PARTS = {
    "number": ("number",),
    "own": ("own",),
    "box": ("box",),
    "plus": ("value", "value"),
    "minus": ("value", "value"),
    "less": ("value", "value"),
    "same": ("value", "value"),
    "not": ("value",),
}


def is_name(thing):
    if not isinstance(thing, str) or not 1 <= len(thing) <= LONGEST_NAME:
        return False
    # Python's own islower takes letters of other alphabets too.
    return all(["a" <= sign <= "z" for sign in thing])


def is_name_of(thing, names):
    return is_name(thing) and thing in names


def is_number(thing, least, greatest):
    # Python counts truths among the whole numbers; here they are none.
    if isinstance(thing, bool) or not isinstance(thing, int):
        return False
    return least <= thing <= greatest


def has_word(thing):
    # The first part is asked for being a text before it is looked up: a list can't be looked up in a dict.
    return isinstance(thing, tuple) and len(thing) > 0 and isinstance(thing[0], str)


def is_value(thing, owns, boxes):
    return is_value_within(thing, owns, boxes, DEEPEST_VALUE)


def is_value_within(thing, owns, boxes, depth):
    # Nothing is looked at below the depth, so no thing can be nested too deep for Python.
    if depth == 0 or not has_word(thing):
        return False
    kinds = VALUE_PARTS.get(thing[0])
    if kinds is None or len(thing) != 1 + len(kinds):
        return False
    return all([is_value_part(part, kind, owns, boxes, depth) for part, kind in zip(thing[1:], kinds)])


def is_value_part(thing, kind, owns, boxes, depth):
    if kind == "number":
        return is_number(thing, 0, GREATEST_NUMBER)
    if kind == "own":
        return is_name_of(thing, owns)
    if kind == "box":
        return is_name_of(thing, boxes)
    return is_value_within(thing, owns, boxes, depth - 1)


def worth(value, size, owns, boxes):
    word = value[0]
    if word == "number":
        return value[1] % size
    if word == "own":
        return owns[value[1]]
    if word == "box":
        return boxes[value[1]]
    one = worth(value[1], size, owns, boxes)
    if word == "not":
        return 1 if one == 0 else 0
    return worth_of_two(word, one, worth(value[2], size, owns, boxes), size)


def worth_of_two(word, one, other, size):
    if word == "plus":
        return (one + other) % size
    if word == "minus":
        return (one - other) % size
    if word == "less":
        return 1 if one < other else 0
    return 1 if one == other else 0
