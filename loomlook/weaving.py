"""Weavings: what state one comes to, what is done in it, and what an end is called."""

from loomlook.looms import names_of
from loomlook.machines import BROKEN, Machine
from loomlook.values import worth


def woven(loom, weaving):
    machine = Machine(loom)
    state = machine.first()
    for worker in weaving:
        state = machine.step(state, worker)
    return state


def told(loom, weaving):
    machine = Machine(loom)
    state = machine.first()
    triples = []
    for worker in weaving:
        # The step is done first: what is no worker's number is refused there.
        behind = machine.step(state, worker)
        triples.append((worker, state[2][worker][0], machine.next_step(state, worker)))
        state = behind
    return triples


def word_of(loom, state):
    machine = Machine(loom)
    if len(machine.able(state)) > 0:
        return "on"
    if any([place == BROKEN for place, owns in state[2]]):
        return "broken"
    if any([machine.next_step(state, worker) is not None for worker in range(len(loom[4]))]):
        return "stuck"
    boxes = dict(zip(names_of(loom[1]), state[0]))
    if any([worth(claim, loom[0], {}, boxes) == 0 for claim in loom[5]]):
        return "wrong"
    return "good"
