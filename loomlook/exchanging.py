"""Exchanging: neighbouring steps that don't concern one another, and the weavings that differ in their order alone."""

from loomlook.steps import apart
from loomlook.weaving import told


def may_exchange(loom, weaving, k):
    # The weaving is gone ahead of looking at k: what is none is refused whatever k is.
    triples = told(loom, weaving)
    return 0 <= k < len(triples) - 1 and are_free(triples[k], triples[k + 1])


def settled(loom, weaving):
    line = []
    for triple in told(loom, weaving):
        line.insert(least_place(line, triple), triple)
    return [worker for worker, place, step in line]


def alike(loom, one, other):
    return settled(loom, one) == settled(loom, other)


def are_free(triple, other):
    return triple[0] != other[0] and apart(triple[2], other[2])


def least_place(line, triple):
    # The line is settled, so of all places to which the new step comes by exchanges the one ahead of the first
    # greater worker makes the line settled again: no other step of the line need move.
    place = len(line)
    least = place
    while place > 0 and are_free(line[place - 1], triple):
        place = place - 1
        if line[place][0] > triple[0]:
            least = place
    return least
