"""The machine of a loom: its first state, who is able, and what a step makes of a state."""

from loomlook.errors import NoMove
from loomlook.looms import names_of
from loomlook.steps import STEP_PARTS
from loomlook.values import is_number, worth

FREE = -1
BROKEN = -1


class Machine:
    def __init__(self, loom):
        self.size = loom[0]
        self.boxes = loom[1]
        self.locks = loom[2]
        # One for each worker: alike workers have the same one.
        self.programs = tuple([loom[3][number] for number in loom[4]])

    def first(self):
        spots = [(0, numbers_of(owns)) for name, owns, steps in self.programs]
        return (numbers_of(self.boxes), (FREE,) * len(self.locks), tuple(spots))

    def able(self, state):
        return [worker for worker in range(len(self.programs)) if self.is_able(state, worker)]

    def next_step(self, state, worker):
        if not is_number(worker, 0, len(self.programs) - 1):
            # It isn't shown: it may be anything, also what is too deep or too long to be written.
            raise NoMove("that is no worker's number")
        steps = self.programs[worker][2]
        place = state[2][worker][0]
        return steps[place] if 0 <= place < len(steps) else None

    def is_able(self, state, worker):
        step = self.next_step(state, worker)
        if step is None:
            return False
        if step[0] == "take":
            return self.holder(state, step[1]) == FREE
        if step[0] == "wait":
            return self.box_number(state, step[1]) == self.step_worth(state, worker, step)
        return True

    def step(self, state, worker):
        if not self.is_able(state, worker):
            raise NoMove(f"worker {worker} is not able")
        step = self.next_step(state, worker)
        if self.does_break(state, worker, step):
            spot = (BROKEN, state[2][worker][1])
            return (state[0], state[1], replaced(state[2], worker, spot))
        spot = (self.place_behind(state, worker, step), self.owns_behind(state, worker, step))
        boxes = self.boxes_behind(state, worker, step)
        return (boxes, self.holders_behind(state, worker, step), replaced(state[2], worker, spot))

    def does_break(self, state, worker, step):
        if step[0] == "give":
            return self.holder(state, step[1]) != worker
        return step[0] == "check" and self.step_worth(state, worker, step) == 0

    def place_behind(self, state, worker, step):
        place = state[2][worker][0] + 1
        if step[0] == "skip":
            return place + step[1]
        if step[0] == "unless" and self.step_worth(state, worker, step) == 0:
            return place + step[2]
        return place

    def owns_behind(self, state, worker, step):
        owns = state[2][worker][1]
        if step[0] == "set":
            return replaced(owns, self.own_place(worker, step[1]), self.step_worth(state, worker, step))
        if step[0] == "get":
            return replaced(owns, self.own_place(worker, step[1]), self.box_number(state, step[2]))
        return owns

    def boxes_behind(self, state, worker, step):
        if step[0] == "put":
            return replaced(state[0], self.box_place(step[1]), self.step_worth(state, worker, step))
        if step[0] == "add":
            number = self.box_number(state, step[1]) + self.step_worth(state, worker, step)
            return replaced(state[0], self.box_place(step[1]), number % self.size)
        return state[0]

    def holders_behind(self, state, worker, step):
        if step[0] == "take":
            return replaced(state[1], self.locks.index(step[1]), worker)
        if step[0] == "give":
            return replaced(state[1], self.locks.index(step[1]), FREE)
        return state[1]

    def step_worth(self, state, worker, step):
        value = step[1 + STEP_PARTS[step[0]].index("value")]
        owns = dict(zip(names_of(self.programs[worker][1]), state[2][worker][1]))
        # A step's value holds no boxes.
        return worth(value, self.size, owns, {})

    def own_place(self, worker, name):
        return names_of(self.programs[worker][1]).index(name)

    def box_place(self, name):
        return names_of(self.boxes).index(name)

    def box_number(self, state, name):
        return state[0][self.box_place(name)]

    def holder(self, state, name):
        return state[1][self.locks.index(name)]


def numbers_of(pairs):
    return tuple([number for name, number in pairs])


def replaced(things, place, thing):
    return things[:place] + (thing,) + things[place + 1:]
