"""Leaving out: what workers may still do, which of them are enough, and whose steps are kept in a state."""

from loomlook.machines import Machine
from loomlook.steps import apart


def may_still(loom, state, worker):
    return Leaver(loom).steps_left(state, worker)


def enough(loom, state, workers):
    return Leaver(loom).are_enough(state, workers)


def kept(loom, state):
    return Leaver(loom).choose(state)


def kept_goers(loom):
    # One Leaver for all states: what it has learnt of some places is not looked for again.
    leaver = Leaver(loom)
    return lambda state: leaver.choose(state)[1]


class Leaver:
    def __init__(self, loom):
        self.machine = Machine(loom)
        self.everyone = list(range(len(loom[4])))
        # Who may meddle with whom hangs on two places alone, which many states share.
        self.meddlings = {}

    def steps_left(self, state, worker):
        if self.machine.next_step(state, worker) is None:
            return []
        place = state[2][worker][0]
        return list(self.machine.programs[worker][2][place:])

    def may_meddle(self, state, other, worker):
        key = (other, state[2][other][0], worker, state[2][worker][0])
        if key not in self.meddlings:
            self.meddlings[key] = self.finds_meddling(state, other, worker)
        return self.meddlings[key]

    def finds_meddling(self, state, other, worker):
        step = self.machine.next_step(state, worker)
        if step is None:
            return False
        return any([not apart(step, left) for left in self.steps_left(state, other)])

    def meddlers(self, state, workers):
        others = [other for other in self.everyone if other not in workers]
        return [other for other in others if any([self.may_meddle(state, other, worker) for worker in workers])]

    def are_enough(self, state, workers):
        # Each is asked, so that what is no worker's number is refused wherever it stands.
        able = [worker for worker in workers if self.machine.is_able(state, worker)]
        return able != [] and self.meddlers(state, workers) == []

    def grown(self, state, worker):
        workers = [worker]
        coming = self.meddlers(state, workers)
        while coming != []:
            workers.extend(coming)
            coming = self.meddlers(state, workers)
        return sorted(workers)

    def choose(self, state):
        able = self.machine.able(state)
        pairs = [with_able(self.grown(state, worker), able) for worker in able]
        # Of several with the fewest able ones min takes the first.
        return min(pairs, key=many_able, default=([], []))


def with_able(workers, able):
    return (workers, [worker for worker in workers if worker in able])


def many_able(pair):
    return len(pair[1])
