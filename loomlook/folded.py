"""Going folded: the folded states that weavings come to, with lean and without, their ends, and real ways to them."""

from loomlook.folding import fold
from loomlook.leaving import kept_goers
from loomlook.looking import able_goers, ends_among, found, way_back
from loomlook.machines import Machine


def folded_seen(loom, lean=False):
    return list(folded_found(loom, lean))


def folded_ends(loom, lean=False):
    return ends_among(loom, folded_found(loom, lean))


def folded_way(loom, state, lean=False):
    # All is looked at, whatever the state: where there are too many, each is refused.
    way = way_back(folded_found(loom, lean), state)
    return None if way is None else real_way(loom, way)


def folded_found(loom, lean):
    goers = kept_goers(loom) if lean else able_goers(loom)
    return found(loom, goers, lambda state: fold(loom, state)[0])


def real_way(loom, way):
    # A way over folded states tells workers as they stand there. The exchange that folds a real state tells who of
    # the real ones stands so; that one's step comes to a state whose folded state is the next one of the way.
    machine = Machine(loom)
    state = machine.first()
    weaving = []
    for worker in way:
        goer = fold(loom, state)[1].index(worker)
        weaving.append(goer)
        state = machine.step(state, goer)
    return weaving
