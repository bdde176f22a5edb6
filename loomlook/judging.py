"""Judging: the word of a loom and a weaving that shows it, by each way of looking."""

from loomlook.errors import NoWay
from loomlook.folded import folded_ends, folded_way
from loomlook.lean import lean_ends, lean_way
from loomlook.looking import ends, way_to
from loomlook.weaving import word_of

LOOKINGS = ("plain", "lean", "folded", "both")
# The worst first: an end of one of them outweighs all ends of those behind it, and good ones.
BAD_WORDS = ("broken", "stuck", "wrong")


def verdict(loom, looking="plain"):
    states = ends_by(loom, looking)
    words = [word_of(loom, state) for state in states]
    for word in BAD_WORDS:
        if word in words:
            return (word, way_by(loom, looking, states[words.index(word)]))
    return ("good", None)


def ends_by(loom, looking):
    if looking not in LOOKINGS:
        # It isn't shown: it may be anything, also what is too deep or too long to be written.
        raise NoWay("that is no way of looking")
    if looking == "plain":
        return ends(loom)
    if looking == "lean":
        return lean_ends(loom)
    return folded_ends(loom, looking == "both")


def way_by(loom, looking, state):
    if looking == "plain":
        return way_to(loom, state)
    if looking == "lean":
        return lean_way(loom, state)
    return folded_way(loom, state, looking == "both")
