"""Rows of a text: each a tuple, its word and its parts, written as words and read from words."""

from loomlook.errors import NoText
from loomlook.feeds import Feed
from loomlook.steps import STEP_PARTS
from loomlook.values import VALUE_PARTS

ROW_PARTS = {
    "size": ("number",),
    "box": ("name", "number"),
    "lock": ("name",),
    "program": ("name",),
    "own": ("name", "number"),
    "worker": ("name",),
    "claim": ("value",),
    "again": ("number",),
    "end": (),
}

NUMBER_KINDS = ("number", "count")
MOST_FIGURES = 2


def words_of(thing):
    if not isinstance(thing, tuple):
        return [str(thing)]
    words = []
    for part in thing:
        words.extend(words_of(part))
    return words


def row_of(words):
    feed = Feed(words)
    word = feed.draw()
    # No word of a step is the word of another row.
    kinds = ROW_PARTS.get(word, STEP_PARTS.get(word))
    if kinds is None:
        raise NoText(f"no row begins with {word}")
    parts = [part_of(feed, kind) for kind in kinds]
    if not feed.is_empty():
        raise NoText(f"a row {word} has too many words")
    return (word,) + tuple(parts)


def part_of(feed, kind):
    if kind == "value":
        return value_of(feed)
    if kind in NUMBER_KINDS:
        return number_of(feed.draw())
    # Whether a word is a name, and the name of something, is asked when the loom is made.
    return feed.draw()


def number_of(word):
    if len(word) > MOST_FIGURES or not all(["0" <= sign <= "9" for sign in word]):
        raise NoText(f"{word} is no number of one or two figures")
    if word[0] == "0" and word != "0":
        raise NoText(f"{word} begins with a 0")
    return int(word)


def value_of(feed):
    # A text may hold values too deep for a function that calls itself, so they are read piece by piece.
    pieces = []
    lacking = 1
    while lacking > 0:
        piece = piece_of(feed)
        pieces.append(piece)
        lacking = lacking - 1 + many_within(piece)
    return value_of_pieces(pieces)


def piece_of(feed):
    word = feed.draw()
    kinds = VALUE_PARTS.get(word)
    if kinds is None:
        raise NoText(f"no value begins with {word}")
    if "value" in kinds:
        return (word,)
    return (word, part_of(feed, kinds[0]))


def many_within(piece):
    return VALUE_PARTS[piece[0]].count("value")


def value_of_pieces(pieces):
    # From the last piece backward: the values within a piece are made before it, the first of them last.
    made = []
    for piece in reversed(pieces):
        within = [made.pop() for turn in range(many_within(piece))]
        made.append(piece + tuple(within))
    return made[0]
