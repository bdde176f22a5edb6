import copy
import unittest

from loomlook.errors import NoMove
from loomlook.looms import loom_of
from loomlook.machines import Machine
from tests.helper import GREATEST, ORDINARY, SMALLEST, able_in, all_weavings, chance_loom, first_of, kinds_of, loom_with
from tests.helper import stepped, strange_things

ONE = ("number", 1)
ZERO = ("number", 0)

NO_WORKERS = [-1, -2, 10 ** 30, -10 ** 30, 10 ** 5000, True, False, None, "", "0", "a", [], [0], (0,), {0: 0}]


class MachineTest(unittest.TestCase):
    def same(self, one, other):
        self.assertEqual(kinds_of(one), kinds_of(other))

    def no_move(self, machine, state, worker):
        kept = copy.deepcopy(state)
        try:
            machine.step(state, worker)
        except ValueError as e:
            self.assertIs(type(e), NoMove)
        else:
            self.fail("not refused")
        self.assertEqual(state, kept)

    def does(self, step, state, behind, **changes):
        """One worker's step, with two steps behind it, makes the one state of the other."""
        machine = Machine(loom_of(*loom_with([step, ("skip", 0), ("skip", 0)], **changes)))
        kept = copy.deepcopy(state)
        self.assertEqual(machine.able(state), [0])
        self.assertEqual(machine.next_step(state, 0), step)
        self.same(machine.step(state, 0), behind)
        self.same(machine.step(state, 0), behind)
        self.assertEqual(state, kept)

    def waits(self, step, state, **changes):
        machine = Machine(loom_of(*loom_with([step, ("skip", 0), ("skip", 0)], **changes)))
        self.assertEqual(machine.able(state), [])
        self.assertEqual(machine.next_step(state, 0), step)
        self.no_move(machine, state, 0)


def state_of(x=0, y=0, lock=-1, other=-1, place=0, a=0, b=1):
    """A state of a loom with boxes x and y, two locks, one worker and its owns a and b."""
    return ((x, y), (lock, other), ((place, (a, b)),))


class FirstTest(MachineTest):
    def test_first_states(self):
        spot = (0, (0, 3))
        self.same(Machine(ORDINARY).first(), ((0, 9), (-1,), (spot, (0, ()), spot)))
        self.same(Machine(SMALLEST).first(), ((), (), ((0, ()),)))
        self.same(Machine(GREATEST).first(), ((15,) * 8, (-1,) * 4, ((0, (15,) * 4),) * 6))

    def test_the_spots_stand_by_workers_not_by_programs(self):
        programs = (("p", (("a", 1),), ()), ("q", (("a", 2), ("b", 3)), ()))
        self.same(Machine((4, (), (), programs, (1, 0, 1), ())).first(), ((), (), ((0, (2, 3)), (0, (1,)), (0, (2, 3)))))

    def test_the_same_of_another_machine_and_behind_steps(self):
        for seed in range(60):
            loom = loom_of(*chance_loom(seed))
            machine = Machine(loom)
            first = machine.first()
            state = first
            while machine.able(state):
                state = machine.step(state, machine.able(state)[-1])
                self.same(machine.first(), first)
            self.same(Machine(loom).first(), first)
            self.same(first, first_of(loom))

    def test_two_machines_at_once(self):
        one = Machine(ORDINARY)
        other = Machine(SMALLEST)
        self.same(one.first(), Machine(ORDINARY).first())
        self.same(other.first(), Machine(SMALLEST).first())


class StepsTest(MachineTest):
    def test_set(self):
        self.does(("set", "a", ("number", 3)), state_of(), state_of(place=1, a=3))
        self.does(("set", "b", ("plus", ("own", "a"), ("own", "b"))), state_of(a=4, b=3), state_of(place=1, a=4, b=2))
        self.does(("set", "a", ("number", 99)), state_of(), state_of(place=1, a=4))
        self.does(("set", "a", ("own", "a")), state_of(a=2), state_of(place=1, a=2))

    def test_get(self):
        self.does(("get", "a", "x"), state_of(x=3, y=2), state_of(x=3, y=2, place=1, a=3))
        self.does(("get", "b", "y"), state_of(x=3, y=2), state_of(x=3, y=2, place=1, b=2))

    def test_an_own_called_like_a_box(self):
        owns = (("y", 0), ("x", 1))
        self.does(("get", "x", "y"), state_of(x=3, y=2), state_of(x=3, y=2, place=1, b=2), owns=owns)
        self.does(("put", "x", ("own", "y")), state_of(x=3, a=4), state_of(x=4, a=4, place=1), owns=owns)

    def test_put(self):
        self.does(("put", "x", ("own", "b")), state_of(x=3, b=4), state_of(x=4, b=4, place=1))
        self.does(("put", "y", ("number", 7)), state_of(x=3), state_of(x=3, y=2, place=1))

    def test_add(self):
        self.does(("add", "x", ("number", 2)), state_of(x=1), state_of(x=3, place=1))
        self.does(("add", "x", ("number", 3)), state_of(x=2), state_of(x=0, place=1))
        self.does(("add", "y", ("own", "a")), state_of(y=4, a=4), state_of(y=3, a=4, place=1))
        self.does(("add", "y", ZERO), state_of(y=4), state_of(y=4, place=1))

    def test_take(self):
        self.does(("take", "l"), state_of(), state_of(lock=0, place=1))
        self.does(("take", "m"), state_of(), state_of(other=0, place=1))
        self.does(("take", "m"), state_of(lock=0), state_of(lock=0, other=0, place=1))
        self.waits(("take", "m"), state_of(other=0))

    def test_give(self):
        self.does(("give", "l"), state_of(lock=0), state_of(place=1))
        self.does(("give", "m"), state_of(lock=0, other=0), state_of(lock=0, place=1))

    def test_give_of_a_lock_that_nobody_holds(self):
        self.does(("give", "l"), state_of(x=3, other=0, a=2), state_of(x=3, other=0, a=2, place=-1))

    def test_wait(self):
        self.does(("wait", "x", ("number", 3)), state_of(x=3), state_of(x=3, place=1))
        self.does(("wait", "y", ("own", "a")), state_of(y=2, a=2), state_of(y=2, a=2, place=1))
        self.does(("wait", "x", ("number", 7)), state_of(x=2), state_of(x=2, place=1))
        for x in [0, 1, 2, 4]:
            self.waits(("wait", "x", ("number", 3)), state_of(x=x, y=3))
        self.waits(("wait", "x", ("own", "b")), state_of(x=0, y=1))

    def test_check(self):
        self.does(("check", ONE), state_of(), state_of(place=1))
        self.does(("check", ("own", "a")), state_of(a=4), state_of(place=1, a=4))
        self.does(("check", ("own", "a")), state_of(x=2, lock=0), state_of(x=2, lock=0, place=-1))
        self.does(("check", ("number", 5)), state_of(a=2), state_of(a=2, place=-1))

    def test_skip(self):
        for k in [0, 1, 2]:
            self.does(("skip", k), state_of(x=2), state_of(x=2, place=1 + k))

    def test_unless(self):
        for k in [0, 1, 2]:
            self.does(("unless", ("own", "a"), k), state_of(a=0), state_of(place=1 + k))
            self.does(("unless", ("own", "a"), k), state_of(a=3), state_of(place=1, a=3))

    def test_skip_and_unless_in_the_midst_of_a_program(self):
        steps = [("skip", 1), ("skip", 0), ("unless", ZERO, 1), ("check", ZERO), ("skip", 0)]
        machine = Machine(loom_of(*loom_with(steps)))
        places = []
        state = machine.first()
        while machine.able(state):
            places.append(state[2][0][0])
            state = machine.step(state, 0)
        self.assertEqual(places + [state[2][0][0]], [0, 2, 4, 5])

    def test_two_workers(self):
        machine = Machine(loom_of(*loom_with([("take", "l"), ("give", "l")], [("take", "l"), ("give", "l")])))
        first = machine.first()
        self.assertEqual(machine.able(first), [0, 1])
        one = machine.step(first, 1)
        self.same(one, ((0, 0), (1, -1), ((0, (0, 1)), (1, (0, 1)))))
        self.assertEqual(machine.able(one), [1])
        self.no_move(machine, one, 0)
        two = machine.step(one, 1)
        self.same(two, ((0, 0), (-1, -1), ((0, (0, 1)), (2, (0, 1)))))
        self.assertEqual(machine.able(two), [0])
        self.no_move(machine, two, 1)

    def test_give_by_one_who_does_not_hold_it(self):
        machine = Machine(loom_of(*loom_with([("take", "l"), ("skip", 0)], [("give", "l"), ("skip", 0)])))
        state = machine.step(machine.step(machine.first(), 0), 1)
        self.same(state, ((0, 0), (0, -1), ((1, (0, 1)), (-1, (0, 1)))))
        self.assertEqual(machine.able(state), [0])
        self.assertIsNone(machine.next_step(state, 1))
        self.no_move(machine, state, 1)

    def test_take_of_a_lock_that_the_worker_holds_itself(self):
        machine = Machine(loom_of(*loom_with([("take", "l"), ("take", "l"), ("give", "l")])))
        state = machine.step(machine.first(), 0)
        self.assertEqual(machine.able(state), [])
        self.assertEqual(machine.next_step(state, 0), ("take", "l"))
        self.no_move(machine, state, 0)

    def test_a_lock_stays_with_one_who_ended_or_broke(self):
        machine = Machine(loom_of(*loom_with([("take", "l")], [("take", "m"), ("check", ZERO)],
                                             [("take", "l")], [("take", "m")])))
        state = machine.step(machine.step(machine.step(machine.first(), 0), 1), 1)
        self.assertEqual(state[1], (0, 1))
        self.assertEqual(machine.able(state), [])

    def test_ended_and_broken_workers(self):
        machine = Machine(loom_of(*loom_with([("skip", 0)], [("check", ZERO)], [], [("unless", ZERO, 1), ("skip", 0)])))
        state = machine.first()
        self.assertEqual(machine.able(state), [0, 1, 3])
        self.assertIsNone(machine.next_step(state, 2))
        for worker in [3, 1, 0]:
            state = machine.step(state, worker)
            self.assertIsNone(machine.next_step(state, worker))
            self.assertNotIn(worker, machine.able(state))
            self.no_move(machine, state, worker)
        self.assertEqual([place for place, owns in state[2]], [1, -1, 0, 2])
        self.assertEqual(machine.able(state), [])

    def test_to_the_very_end_of_the_longest_program(self):
        machine = Machine(loom_of(*loom_with([("skip", 29)] + [("skip", 0)] * 29,
                                             [("unless", ZERO, 29)] + [("skip", 0)] * 29)))
        state = machine.step(machine.step(machine.first(), 0), 1)
        self.assertEqual([place for place, owns in state[2]], [30, 30])
        self.assertEqual(machine.able(state), [])
        self.assertIsNone(machine.next_step(state, 0))


class AgainstAnotherTest(MachineTest):
    def test_every_state_of_many_looms(self):
        met = set()
        for seed in range(250):
            loom = loom_of(*chance_loom(seed))
            kept = copy.deepcopy(loom)
            machine = Machine(loom)
            for weaving, state in list(all_weavings(loom))[:300]:
                able = able_in(loom, state)
                self.same(machine.able(state), able)
                for worker, program in enumerate(loom[4]):
                    place = state[2][worker][0]
                    steps = loom[3][program][2]
                    step = None if place in (-1, len(steps)) else steps[place]
                    self.same(machine.next_step(state, worker), step)
                    if worker in able:
                        met.add(step[0])
                        self.same(machine.step(state, worker), stepped(loom, state, worker))
                    else:
                        self.no_move(machine, state, worker)
            self.assertEqual(loom, kept)
        self.assertEqual(met, {"set", "get", "put", "add", "take", "give", "wait", "check", "skip", "unless"})


class NoMoveTest(MachineTest):
    def test_what_is_no_worker_s_number(self):
        for loom in [ORDINARY, SMALLEST, GREATEST]:
            machine = Machine(loom)
            for worker in NO_WORKERS + [len(loom[4]), len(loom[4]) + 1]:
                self.no_move(machine, machine.first(), worker)

    def test_whatever_it_is(self):
        machine = Machine(ORDINARY)
        state = machine.first()
        for worker in strange_things():
            if type(worker) is not int or worker not in (0, 2):
                self.no_move(machine, state, worker)

    def test_a_refusal_leaves_nothing_behind(self):
        machine = Machine(ORDINARY)
        state = machine.step(machine.first(), 0)
        for worker in [1, 2, None, 3]:
            self.no_move(machine, state, worker)
        self.assertEqual(machine.able(state), [0])
        self.same(machine.step(state, 0), stepped(ORDINARY, state, 0))


class OwnTest(MachineTest):
    def test_the_list_of_able_workers_is_the_asker_s_own(self):
        machine = Machine(ORDINARY)
        state = machine.first()
        told = machine.able(state)
        self.same(told, [0, 2])
        told.append(9)
        told.reverse()
        self.same(machine.able(state), [0, 2])
        self.assertEqual(told, [9, 2, 0])
        machine.able(state).clear()
        self.same(machine.able(state), [0, 2])

    def test_a_state_told_stays_whatever_is_done_later(self):
        machine = Machine(ORDINARY)
        states = [machine.first()]
        for worker in [0, 0, 0, 0, 0, 0, 0, 2]:
            states.append(machine.step(states[-1], worker))
        kept = copy.deepcopy(states)
        for state in states:
            for worker in machine.able(state):
                machine.step(state, worker)
        self.assertEqual(states, kept)
