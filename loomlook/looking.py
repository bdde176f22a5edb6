"""Looking: all states that weavings come to, the ways to them, and how many weavings there are."""

from loomlook.errors import TooMany
from loomlook.looms import MOST_STEPS
from loomlook.machines import BROKEN, Machine

MOST_STATES = 1500


def seen(loom):
    return list(plainly_found(loom))


def ends(loom):
    return ends_among(loom, plainly_found(loom))


def way_to(loom, state):
    # All is looked at, whatever the state: where there are too many, each is refused.
    return way_back(plainly_found(loom), state)


def ends_among(loom, states):
    machine = Machine(loom)
    return sorted([state for state in states if machine.able(state) == []])


def way_back(before, state):
    if state not in before:
        return None
    way = []
    pair = before[state]
    while pair is not None:
        way.append(pair[1])
        pair = before[pair[0]]
    return list(reversed(way))


def many(loom):
    machine = Machine(loom)
    weavings = {machine.first(): 1}
    total = 0
    # A state may be come to by weavings of unlike lengths: it is met here behind all that lead to it.
    for state in sorted(plainly_found(loom), key=how_far):
        workers = machine.able(state)
        if workers == []:
            total = total + weavings[state]
        for worker in workers:
            behind = machine.step(state, worker)
            weavings[behind] = weavings.get(behind, 0) + weavings[state]
    return total


def closed(loom, states):
    machine = Machine(loom)
    known = dict([(state, True) for state in states])
    return machine.first() in known and all([leads_into(machine, state, known) for state in known])


def plainly_found(loom):
    return found(loom, able_goers(loom), itself)


def able_goers(loom):
    machine = Machine(loom)
    return lambda state: machine.able(state)


def itself(state):
    return state


def found(loom, goers, stand_in):
    # Each state with the state and the worker by which it was found first: so these make the least way to it.
    # The function goers tells the rising list of those workers, of the able ones, whose steps are done in a state.
    # The function stand_in tells the state as which one is found: itself, or one that stands for several.
    machine = Machine(loom)
    first = stand_in(machine.first())
    before = {first: None}
    layer = [first]
    while layer != []:
        layer = next_layer(machine, goers, stand_in, layer, before)
    return before


def next_layer(machine, goers, stand_in, layer, before):
    fresh = []
    for state in layer:
        for worker in goers(state):
            behind = stand_in(machine.step(state, worker))
            if behind not in before:
                before[behind] = (state, worker)
                fresh.append(behind)
        if len(before) > MOST_STATES:
            raise TooMany(f"there are more than {MOST_STATES} states")
    return fresh


def how_far(state):
    # Every step makes this greater: a worker that broke counts as being at the last place that there may be.
    return sum([MOST_STEPS if place == BROKEN else place for place, owns in state[2]])


def leads_into(machine, state, known):
    return all([machine.step(state, worker) in known for worker in machine.able(state)])
