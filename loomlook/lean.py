"""Going lean: the states that come of kept workers' steps alone, their ends, and the ways to them."""

from loomlook.leaving import kept_goers
from loomlook.looking import ends_among, found, itself, way_back


def lean_seen(loom):
    return list(lean_found(loom))


def lean_ends(loom):
    return ends_among(loom, lean_found(loom))


def lean_way(loom, state):
    return way_back(lean_found(loom), state)


def lean_found(loom):
    return found(loom, kept_goers(loom), itself)
