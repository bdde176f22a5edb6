import copy
import itertools
import random

from loomlook.folding import classes, exchanged, fold
from loomlook.looms import loom_of
from loomlook.weaving import woven
from tests.helper import GREATEST, ORDINARY, SMALLEST, HandedTest, able_in, all_exchanges, all_states, busy_loom
from tests.helper import chance_loom, exchanged_told, first_of, folded_told, idlers, loom_with, paired_loom, stepped
from tests.helper import with_part

ONE = ("number", 1)


def workers_of(many_programs, *workers):
    """A loom of so many programs with the same steps and unlike names."""
    return loom_of(*with_part(loom_with(*[[("add", "x", ONE)]] * many_programs), workers=workers))


# Three alike workers over two locks, and one more of another program that does the same.
LOCKERS = loom_of(*with_part(loom_with(*[[("skip", 0), ("take", "l"), ("take", "m"), ("give", "l")]] * 2, owns=()),
                             workers=(0, 0, 1, 0)))

# Four locks, and six alike workers that take whichever the box tells.
SIX = loom_of(5, (("x", 0),), ("j", "k", "l", "m"), (("p", (("a", 0),), (
    ("get", "a", "x"), ("add", "x", ONE),
    ("unless", ("same", ("own", "a"), ("number", 0)), 1), ("take", "m"),
    ("unless", ("same", ("own", "a"), ("number", 1)), 1), ("take", "j"),
    ("unless", ("same", ("own", "a"), ("number", 2)), 1), ("take", "l"), ("set", "a", ("number", 0)),
)),), (0,) * 6, ())


class ClassesTest(HandedTest):
    def test_one_worker(self):
        self.same(classes(SMALLEST), [[0]])
        self.same(classes(workers_of(4, 3)), [[0]])

    def test_all_alike(self):
        for many in range(1, 7):
            self.same(classes(workers_of(1, *[0] * many)), [list(range(many))])
            self.same(classes(workers_of(4, *[2] * many)), [list(range(many))])

    def test_none_alike(self):
        self.same(classes(workers_of(2, 0, 1)), [[0], [1]])
        self.same(classes(workers_of(4, 3, 1, 0, 2)), [[0], [1], [2], [3]])

    def test_by_turns(self):
        self.same(classes(workers_of(2, 0, 1, 0, 1, 0, 1)), [[0, 2, 4], [1, 3, 5]])
        self.same(classes(workers_of(3, 2, 0, 1, 2, 0, 1)), [[0, 3], [1, 4], [2, 5]])
        self.same(classes(workers_of(4, 3, 0, 0, 3, 2)), [[0, 3], [1, 2], [4]])

    def test_by_the_first_workers_and_not_by_the_programs(self):
        self.same(classes(workers_of(2, 1, 0)), [[0], [1]])
        self.same(classes(workers_of(2, 1, 0, 0, 1, 1)), [[0, 3, 4], [1, 2]])
        self.same(classes(workers_of(4, 3, 2, 1, 0, 1, 2)), [[0], [1, 5], [2, 4], [3]])

    def test_the_same_steps_under_unlike_names_are_not_alike(self):
        steps = (("add", "x", ONE),)
        loom = loom_of(5, (("x", 0),), (), (("p", (), steps), ("q", (), steps)), (0, 1, 0), ())
        self.same(classes(loom), [[0, 2], [1]])

    def test_the_greatest_loom_and_an_ordinary_one(self):
        self.same(classes(GREATEST), [[0, 5], [1], [2], [3, 4]])
        self.same(classes(ORDINARY), [[0, 2], [1]])

    def test_the_lists_are_the_asker_s_own(self):
        loom = workers_of(2, 0, 1, 0)
        self.own(classes, loom)
        classes(loom)[0].append(9)
        self.same(classes(loom), [[0, 2], [1]])


class ExchangedTest(HandedTest):
    STATE = ((3, 1), (2, -1, 0), ((1, (5,)), (2, (6,)), (0, (7,)), (-1, (8,))))

    def test_all_as_it_is(self):
        self.same(exchanged(self.STATE, [0, 1, 2, 3]), self.STATE)
        free = (self.STATE[0], (-1, -1, -1), self.STATE[2])
        self.same(exchanged(free, [0, 1, 2, 3]), free)

    def test_two_exchanged(self):
        self.same(exchanged(self.STATE, [1, 0, 2, 3]),
                  ((3, 1), (2, -1, 1), ((2, (6,)), (1, (5,)), (0, (7,)), (-1, (8,)))))
        self.same(exchanged(self.STATE, [0, 3, 2, 1]),
                  ((3, 1), (2, -1, 0), ((1, (5,)), (-1, (8,)), (0, (7,)), (2, (6,)))))

    def test_three_turned_round(self):
        # Worker 0 becomes 1, 1 becomes 2, 2 becomes 0.
        turned = ((3, 1), (0, -1, 1), ((0, (7,)), (1, (5,)), (2, (6,)), (-1, (8,))))
        self.same(exchanged(self.STATE, [1, 2, 0, 3]), turned)
        self.same(exchanged(turned, [2, 0, 1, 3]), self.STATE)
        other_way = ((3, 1), (1, -1, 2), ((2, (6,)), (0, (7,)), (1, (5,)), (-1, (8,))))
        self.same(exchanged(self.STATE, [2, 0, 1, 3]), other_way)
        self.same(exchanged(turned, [1, 2, 0, 3]), other_way)

    def test_one_worker_that_holds_several_locks(self):
        state = ((), (1, 1, 0, -1), ((4, ()), (5, ())))
        self.same(exchanged(state, [1, 0]), ((), (0, 0, 1, -1), ((5, ()), (4, ()))))

    def test_no_boxes_no_locks_one_worker(self):
        state = first_of(SMALLEST)
        self.same(exchanged(state, [0]), state)

    def test_what_was_handed_in_stays(self):
        exchange = [1, 2, 0, 3]
        kept = copy.deepcopy(self.STATE)
        exchanged(self.STATE, exchange)
        self.same(exchange, [1, 2, 0, 3])
        self.same(self.STATE, kept)

    def test_the_states_of_looms(self):
        for loom in [LOCKERS] + [paired_loom(seed, most_workers=4) for seed in range(40)]:
            for state in all_states(loom)[:60]:
                for exchange in all_exchanges(loom):
                    made = exchanged(state, exchange)
                    self.same(made, exchanged_told(state, exchange))
                    back = [exchange.index(worker) for worker in range(len(exchange))]
                    self.same(exchanged(made, back), state)


class FoldTest(HandedTest):
    def folds(self, loom, state, wanted):
        """The folded state is as told, and the exchange beside it makes it and is one."""
        kept = copy.deepcopy(state)
        pair = fold(loom, state)
        self.assertIs(type(pair), tuple)
        self.assertEqual(len(pair), 2)
        self.same(pair[0], wanted)
        exchange = pair[1]
        self.assertIs(type(exchange), list)
        self.same(sorted(exchange), list(range(len(loom[4]))))
        self.assertEqual([loom[4][worker] for worker in exchange], list(loom[4]))
        self.same(exchanged_told(state, exchange), wanted)
        self.same(exchanged(state, exchange), wanted)
        self.same(state, kept)
        return exchange

    def test_the_first_state_is_its_own(self):
        for loom in [SMALLEST, ORDINARY, GREATEST, LOCKERS, SIX, idlers(2, 2, 1)]:
            self.folds(loom, first_of(loom), first_of(loom))

    def test_by_the_spots(self):
        loom = loom_of(*idlers(3, 3, 3))
        self.folds(loom, ((), (), ((2, ()), (0, ()), (1, ()))), ((), (), ((0, ()), (1, ()), (2, ()))))
        self.folds(loom, ((), (), ((0, ()), (3, ()), (0, ()))), ((), (), ((0, ()), (0, ()), (3, ()))))
        self.folds(loom, ((), (), ((0, ()), (1, ()), (2, ()))), ((), (), ((0, ()), (1, ()), (2, ()))))

    def test_one_that_broke_comes_first(self):
        loom = loom_of(*with_part(loom_with([("check", ("number", 0))], boxes=(), locks=(), owns=()), workers=(0, 0, 0)))
        self.folds(loom, woven(loom, [2]), ((), (), ((-1, ()), (0, ()), (0, ()))))

    def test_at_the_same_place_by_the_owns(self):
        loom = loom_of(*with_part(loom_with([("get", "a", "x"), ("add", "x", ONE)], locks=()), workers=(0, 0)))
        self.folds(loom, woven(loom, [1, 1, 0, 0]), ((2, 0), (), ((2, (0, 1)), (2, (1, 1)))))
        self.folds(loom, woven(loom, [0, 0, 1, 1]), ((2, 0), (), ((2, (0, 1)), (2, (1, 1)))))

    def test_those_of_unlike_programs_stay_where_they_are(self):
        loom = loom_of(*idlers(3, 2, 3))
        self.folds(loom, ((), (), ((3, ()), (2, ()), (1, ()))), ((), (), ((1, ()), (2, ()), (3, ()))))
        apart = loom_of(*idlers(3, 2))
        self.folds(apart, ((), (), ((3, ()), (0, ()))), ((), (), ((3, ()), (0, ()))))

    def test_the_spots_come_ahead_of_the_holders(self):
        state = woven(LOCKERS, [0, 0, 3])
        self.same(state, ((0, 0), (0, -1), ((2, ()), (0, ()), (0, ()), (1, ()))))
        self.folds(LOCKERS, state, ((0, 0), (3, -1), ((0, ()), (1, ()), (0, ()), (2, ()))))

    def test_at_the_same_spot_one_holds_a_lock(self):
        loom = loom_of(*with_part(loom_with([("get", "a", "x"), ("add", "x", ONE), ("unless", ("own", "a"), 1),
                                             ("take", "l"), ("set", "a", ("number", 0))]), workers=(0, 0, 0)))
        found = set()
        for going, other, idle in itertools.permutations(range(3)):
            # The second that goes finds 1 in the box and takes the lock; then their spots are the same.
            state = woven(loom, [going] * 4 + [other] * 5)
            exchange = self.folds(loom, state, folded_told(loom, state))
            self.assertEqual(state[1], (other, -1))
            self.assertEqual(fold(loom, state)[0][1], (1, -1))
            self.assertEqual(exchange[other], 1)
            found.add(fold(loom, state)[0])
        self.assertEqual(len(found), 1)

    def test_at_the_same_spot_several_hold_locks(self):
        spots = ((4, ()),) * 6
        program = ("p", (), (("take", "j"),) * 4)
        loom = loom_of(2, (), ("j", "k", "l", "m"), (program,), (0,) * 6, ())
        told = {
            (5, -1, -1, -1): (0, -1, -1, -1),
            (-1, -1, -1, 3): (-1, -1, -1, 0),
            (5, 4, 3, 2): (0, 1, 2, 3),
            (1, 0, 1, 0): (0, 1, 0, 1),
            (-1, 4, 2, 4): (-1, 0, 1, 0),
            (2, 3, 3, 2): (0, 1, 1, 0),
            (4, 4, 4, 4): (0, 0, 0, 0),
            (-1, -1, -1, -1): (-1, -1, -1, -1),
        }
        for holders, wanted in told.items():
            self.folds(loom, ((), holders, spots), ((), wanted, spots))

    def test_several_groups_hold_locks(self):
        program = ("p", (), (("take", "j"),) * 4)
        loom = loom_of(2, (), ("j", "k", "l", "m"), (program, ("q", (), program[2])), (0, 1, 0, 1, 0, 0), ())
        for places in [(4, 2, 4, 2, 1, 1), (1, 3, 4, 2, 4, 1), (4, 4, 4, 4, 4, 4), (3, 2, 3, 2, 3, 1)]:
            spots = tuple((place, ()) for place in places)
            for holders in [(5, 3, 1, 0), (4, 4, 2, 3), (-1, 5, 4, -1), (3, 1, 5, 2), (2, 0, -1, 5), (0, 1, 2, 3)]:
                state = ((), holders, spots)
                self.folds(loom, state, folded_told(loom, state))

    def test_every_state_of_many_looms(self):
        unlike = 0
        holding = 0
        looms = [LOCKERS] + [paired_loom(seed, most_workers=4) for seed in range(150)]
        looms += [chance_loom(seed, most_workers=4) for seed in range(100)]
        looms += [busy_loom(seed, most_workers=4) for seed in range(50)]
        for loom in looms:
            for state in all_states(loom_of(*loom))[:100]:
                wanted = folded_told(loom, state)
                self.folds(loom, state, wanted)
                unlike += wanted != state
                holding += wanted[1] != state[1]
        self.assertGreater(unlike, 1000)
        self.assertGreater(holding, 200)

    def test_five_and_six_alike(self):
        # All states are too many to be gone through: those that some weavings come to, by chance.
        chance = random.Random(7)
        holding = 0
        for loom in [SIX, with_part(SIX, workers=(0,) * 5)] * 15:
            state = first_of(loom)
            while able_in(loom, state) != []:
                state = stepped(loom, state, chance.choice(able_in(loom, state)))
                if chance.randrange(6) == 0:
                    self.folds(loom, state, folded_told(loom, state))
                    holding += fold(loom, state)[0][1] != state[1]
        self.assertGreater(holding, 50)

    def test_all_exchanges_of_a_state_have_the_same_one(self):
        for loom in [LOCKERS] + [paired_loom(seed, most_workers=4) for seed in range(60)]:
            for state in all_states(loom)[:40]:
                folded = fold(loom, state)[0]
                self.same(fold(loom, folded)[0], folded)
                for exchange in all_exchanges(loom):
                    self.same(fold(loom, exchanged(state, exchange))[0], folded)

    def test_the_same_one_just_where_an_exchange_makes_it(self):
        for loom in [LOCKERS] + [paired_loom(seed) for seed in range(40)]:
            states = all_states(loom)[:40]
            for state in states:
                made = [exchanged_told(state, exchange) for exchange in all_exchanges(loom)]
                for other in states:
                    self.assertEqual(fold(loom, state)[0] == fold(loom, other)[0], other in made)

    def test_the_exchange_is_the_asker_s_own(self):
        state = woven(LOCKERS, [0, 0, 3])
        kept = fold(LOCKERS, state)
        pair = fold(LOCKERS, state)
        pair[1].reverse()
        pair[1].append(9)
        self.same(fold(LOCKERS, state), kept)
