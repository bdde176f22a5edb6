"""Each once: of the weavings to ends that are alike the settled one, without going through the others."""

from loomlook.errors import TooMany
from loomlook.leaving import Leaver
from loomlook.machines import Machine
from loomlook.steps import apart

MOST_WEAVINGS = 400


def each_once(loom):
    return Search(loom).go_through()


class Search:
    # A node is a pair: a state, and who is asleep there. Asleep is an able worker whose next step could be exchanged
    # forward, ahead of a greater worker's: done now it would make a weaving that isn't settled. It sleeps until a step
    # is done that isn't apart from its own. So the weavings by workers that aren't asleep are just the settled ones.
    def __init__(self, loom):
        self.machine = Machine(loom)
        self.leaver = Leaver(loom)
        self.weavings = []
        # Nodes behind which no settled weaving comes to an end: they are not gone again.
        self.barren = {}

    def go_through(self):
        # A list of tasks in the place of a function that calls itself: a weaving may have 180 steps.
        tasks = [([], (self.machine.first(), ()), None)]
        while tasks != []:
            task = tasks.pop()
            tasks.extend(self.tasks_of(task[0], task[1], task[2]))
        return self.weavings

    def tasks_of(self, weaving, node, many_before):
        if many_before is not None:
            self.leave(node, many_before)
            return []
        if node in self.barren:
            return []
        # The last task is done first: the node is left when all that comes behind it has been gone.
        later = (weaving, node, len(self.weavings))
        return [later] + self.tasks_behind(weaving, node[0], node[1])

    def leave(self, node, many_before):
        if len(self.weavings) == many_before:
            self.barren[node] = True

    def tasks_behind(self, weaving, state, asleep):
        able = self.machine.able(state)
        if able == []:
            self.take_in(weaving)
        if not self.may_all_wake(state, able, asleep):
            return []
        awake = [worker for worker in able if worker not in asleep]
        # The least worker's task stands last, so that the weavings are found rising.
        return [(weaving + [worker], self.node_behind(state, asleep, worker), None) for worker in reversed(awake)]

    def take_in(self, weaving):
        if len(self.weavings) == MOST_WEAVINGS:
            raise TooMany(f"there are more than {MOST_WEAVINGS} settled weavings")
        self.weavings.append(weaving)

    def node_behind(self, state, asleep, worker):
        step = self.machine.next_step(state, worker)
        others = [other for other in self.machine.able(state) if other < worker or other in asleep]
        sleepers = [other for other in others if apart(self.machine.next_step(state, other), step)]
        return (self.machine.step(state, worker), tuple(sleepers))

    def may_all_wake(self, state, able, asleep):
        # Who is never woken stays able, so that no end is come to. Only one who is awake, or comes to be, wakes others.
        awake = [worker for worker in able if worker not in asleep]
        coming = self.woken_by(state, awake)
        while coming != []:
            awake.extend(coming)
            coming = self.woken_by(state, awake)
        return all([worker in awake for worker in asleep])

    def woken_by(self, state, awake):
        others = [other for other in self.leaver.everyone if other not in awake]
        return [other for other in others if any([self.leaver.may_meddle(state, each, other) for each in awake])]
