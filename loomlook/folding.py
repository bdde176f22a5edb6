"""Folding: alike workers, their exchanges, and the one state that stands for all that exchanges make of it."""

from loomlook.machines import FREE


def classes(loom):
    workers = {}
    for worker, program in enumerate(loom[4]):
        workers.setdefault(program, []).append(worker)
    return list(workers.values())


def exchanged(state, exchange):
    spots = tuple([state[2][exchange.index(place)] for place in range(len(exchange))])
    holders = tuple([FREE if holder == FREE else exchange[holder] for holder in state[1]])
    return (state[0], holders, spots)


def fold(loom, state):
    exchange = folding_exchange(loom, state)
    return (exchanged(state, exchange), exchange)


def folding_exchange(loom, state):
    # Rising spots are the least ones. Of workers at the same spot the one that holds the first of the locks comes
    # first: so that lock's holder is as small as may be, and then the next lock's.
    exchange = list(range(len(loom[4])))
    for workers in classes(loom):
        rising = sorted(workers, key=lambda worker: (state[2][worker], first_lock(state, worker)))
        for worker, place in zip(rising, workers):
            exchange[worker] = place
    return exchange


def first_lock(state, worker):
    holders = state[1]
    return holders.index(worker) if worker in holders else len(holders)
