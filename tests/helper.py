"""Things that the tests of several modules use."""


def chain(value, times):
    """The value with "not" around it, so many times."""
    for turn in range(times):
        value = ("not", value)
    return value


def deep_tuple(times):
    thing = ()
    for turn in range(times):
        thing = (thing,)
    return thing


def deep_list(times):
    thing = []
    for turn in range(times):
        thing = [thing]
    return thing


def strange_things():
    """Things of every kind that may be handed in where anything may be."""
    return [
        0, 1, 2, 3, -1, 17, 99, 100, 10 ** 30, True, False, None,
        "", "a", "b", "x", "l", "A", "0", "abcdefghi", "number", "plus", "skip",
        [], [0], ["a"], ["x", 0], [[]], ["number", 1], ["own", "a"], ["skip", 0],
        (), (0,), ("a",), ("x", 0), ((),), (("x", 0),), (True,), (None, None),
        ("number", 1), ("own", "a"), ("box", "x"), ("skip", 0), ("take", "l"),
        deep_tuple(300), deep_list(300), chain(("number", 1), 300),
    ]


def things_without(thing, place):
    return thing[:place] + thing[place + 1:]


def things_with(thing, place, part):
    return thing[:place] + (part,) + thing[place + 1:]


def spoiled(thing):
    """Every thing that comes of one replaced part, at whatever depth, or of one part less or more."""
    if not isinstance(thing, tuple):
        return
    yield list(thing)
    for strange in strange_things():
        yield thing + (strange,)
    for place, part in enumerate(thing):
        yield things_without(thing, place)
        yield thing[:place] + (part,) + thing[place:]
        for strange in strange_things():
            yield things_with(thing, place, strange)
        for other in spoiled(part):
            yield things_with(thing, place, other)
