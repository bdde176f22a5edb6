"""Things that the tests of several modules use."""

import copy
import itertools
import random
import unittest

from loomlook.values import worth

PARTS = ["size", "boxes", "locks", "programs", "workers", "claims"]

STEPS = (
    ("take", "l"),
    ("get", "a", "x"),
    ("set", "b", ("plus", ("own", "a"), ("number", 1))),
    ("unless", ("less", ("own", "b"), ("number", 9)), 2),
    ("put", "x", ("own", "b")),
    ("add", "y", ("number", 99)),
    ("give", "l"),
)

# A loom with something in each of its parts.
ORDINARY = (
    10,
    (("x", 0), ("y", 9)),
    ("l",),
    (("adder", (("a", 0), ("b", 3)), STEPS),
     ("watcher", (), (("wait", "x", ("number", 2)), ("check", ("number", 1)), ("skip", 0)))),
    (0, 1, 0),
    (("same", ("box", "x"), ("number", 2)), ("not", ("box", "y"))),
)

SMALLEST = (2, (), (), (("p", (), ()),), (0,), ())


def chain(value, times):
    """The value with "not" around it, so many times."""
    for turn in range(times):
        value = ("not", value)
    return value


def letters(many, first="a"):
    return [chr(ord(first) + turn) for turn in range(many)]


def held(many, number=0):
    return tuple((name, number) for name in letters(many))


def greatest_program(name):
    return (name, held(4, 15), (("set", "a", chain(("own", "d"), 4)),) * 29 + (("skip", 0),))


GREATEST = (
    16,
    held(8, 15),
    tuple(letters(4, "w")),
    tuple(greatest_program(name * 8) for name in letters(4)),
    (0, 1, 2, 3, 3, 0),
    (chain(("box", "h"), 4),) * 4,
)


def with_part(loom, **changes):
    parts = dict(zip(PARTS, loom))
    parts.update(changes)
    return tuple(parts[part] for part in PARTS)


def deep_tuple(times):
    thing = ()
    for turn in range(times):
        thing = (thing,)
    return thing


def deep_list(times):
    thing = []
    for turn in range(times):
        thing = [thing]
    return thing


def strange_things():
    """Things of every kind that may be handed in where anything may be."""
    return [
        0, 1, 2, 3, -1, 17, 99, 100, 10 ** 30, True, False, None,
        "", "a", "b", "x", "l", "A", "0", "abcdefghi", "number", "plus", "skip",
        [], [0], ["a"], ["x", 0], [[]], ["number", 1], ["own", "a"], ["skip", 0],
        (), (0,), ("a",), ("x", 0), ((),), (("x", 0),), (True,), (None, None),
        ("number", 1), ("own", "a"), ("box", "x"), ("skip", 0), ("take", "l"),
        deep_tuple(300), deep_list(300), chain(("number", 1), 300),
    ]


def things_without(thing, place):
    return thing[:place] + thing[place + 1:]


def things_with(thing, place, part):
    return thing[:place] + (part,) + thing[place + 1:]


def spoiled(thing):
    """Every thing that comes of one replaced part, at whatever depth, or of one part less or more."""
    if not isinstance(thing, tuple):
        return
    yield list(thing)
    for strange in strange_things():
        yield thing + (strange,)
    for place, part in enumerate(thing):
        yield things_without(thing, place)
        yield thing[:place] + (part,) + thing[place:]
        for strange in strange_things():
            yield things_with(thing, place, strange)
        for other in spoiled(part):
            yield things_with(thing, place, other)


def kinds_of(thing):
    """The thing with each part's kind beside it, so that 1 and True, or a list and a tuple, are told apart."""
    if isinstance(thing, (tuple, list)):
        return (type(thing), [kinds_of(part) for part in thing])
    return (type(thing), thing)


def loom_with(*programs, size=5, boxes=(("x", 0), ("y", 0)), locks=("l", "m"), owns=(("a", 0), ("b", 1)), claims=()):
    """A loom with one worker of each program; a program is told by its steps alone."""
    made = tuple((name, owns, tuple(steps)) for name, steps in zip("pqrs", programs))
    return (size, boxes, locks, made, tuple(range(len(made))), claims)


def first_of(loom):
    size, boxes, locks, programs, workers, claims = loom
    spots = tuple((0, tuple(number for name, number in programs[worker][1])) for worker in workers)
    return (tuple(number for name, number in boxes), tuple(-1 for lock in locks), spots)


def stepped(loom, state, worker):
    """The state behind a worker's step, None where it isn't able: told apart from the program."""
    size, boxes, locks, programs, workers, claims = loom
    name, owns, steps = programs[workers[worker]]
    place, numbers = state[2][worker]
    if place in (-1, len(steps)):
        return None
    box = dict(zip([each[0] for each in boxes], state[0]))
    lock = dict(zip(locks, state[1]))
    own = dict(zip([each[0] for each in owns], numbers))
    place += 1
    match steps[place - 1]:
        case ("set", target, value):
            own[target] = worth(value, size, own, box)
        case ("get", target, source):
            own[target] = box[source]
        case ("put", target, value):
            box[target] = worth(value, size, own, box)
        case ("add", target, value):
            box[target] = (box[target] + worth(value, size, own, box)) % size
        case ("take", target):
            if lock[target] != -1:
                return None
            lock[target] = worker
        case ("give", target):
            if lock[target] == worker:
                lock[target] = -1
            else:
                place = -1
        case ("wait", target, value):
            if box[target] != worth(value, size, own, box):
                return None
        case ("check", value):
            place = -1 if worth(value, size, own, box) == 0 else place
        case ("skip", many):
            place += many
        case ("unless", value, many):
            place += many if worth(value, size, own, box) == 0 else 0
    spots = list(state[2])
    spots[worker] = (place, tuple(own.values()))
    return (tuple(box.values()), tuple(lock.values()), tuple(spots))


def able_in(loom, state):
    return [worker for worker in range(len(loom[4])) if stepped(loom, state, worker) is not None]


def all_weavings(loom):
    """Every weaving, to ends or not, with the state it comes to: the shorter ones first, then the lesser ones."""
    layer = [([], first_of(loom))]
    while layer:
        yield from layer
        layer = [(weaving + [worker], stepped(loom, state, worker))
                 for weaving, state in layer for worker in able_in(loom, state)]


def all_states(loom):
    """Every state that a weaving comes to, in no order that is told."""
    states = [first_of(loom)]
    known = set(states)
    for state in states:
        for worker in able_in(loom, state):
            behind = stepped(loom, state, worker)
            if behind not in known:
                known.add(behind)
                states.append(behind)
    return states


def idlers(*lengths):
    """A loom whose workers touch nothing, with so many steps each."""
    programs = tuple((name, (), (("skip", 0),) * length) for name, length in zip("pqrs", sorted(set(lengths))))
    numbers = tuple(sorted(set(lengths)).index(length) for length in lengths)
    return (5, (), (), programs, numbers, ())


def started(length, *others):
    """The others begin when a worker of so many steps has ended: states are its steps, and all of theirs together."""
    one = ("number", 1)
    starter = ("starter", (), (("skip", 0),) * (length - 1) + (("put", "go", one),))
    waiters = [(name, (), (("wait", "go", one),) + (("skip", 0),) * (other - 1)) for name, other in zip("pqr", others)]
    return (2, (("go", 0),), (), (starter,) + tuple(waiters), tuple(range(1 + len(others))), ())


def crowd(length, *others):
    """As started, but all steps concern one another, so that all able workers are kept."""
    one = ("number", 1)
    starter = [("put", "x", ("number", 0))] * (length - 1) + [("put", "x", one)]
    return loom_with(starter, *[[("wait", "x", one)] + [("put", "x", one)] * (other - 1) for other in others])


def touch_told(step):
    """What a step touches, and the way, told apart from the program; None where it touches nothing."""
    match step:
        case ("get", own, box):
            return (box, "read")
        case ("wait", box, value):
            return (box, "read")
        case ("put", box, value):
            return (box, "write")
        case ("add", box, value):
            return (box, "add")
        case ("take", lock) | ("give", lock):
            return (lock, "lock")
    return None


def concern(step, other):
    """Whether two steps are not apart."""
    one = touch_told(step)
    two = touch_told(other)
    if one is None or two is None or one[0] != two[0]:
        return False
    return (one[1], two[1]) not in [("read", "read"), ("add", "add")]


def next_told(loom, state, worker):
    """The step that is next for a worker, None where it has ended or broke."""
    steps = loom[3][loom[4][worker]][2]
    place = state[2][worker][0]
    return None if place in (-1, len(steps)) else steps[place]


def exchanges_of(loom, weaving):
    """The weavings that come of one by one exchange, each with the place of the exchange."""
    state = first_of(loom)
    done = []
    for worker in weaving:
        done.append((worker, next_told(loom, state, worker)))
        state = stepped(loom, state, worker)
    for k, ((one, step), (two, other)) in enumerate(zip(done, done[1:])):
        if one != two and not concern(step, other):
            yield k, weaving[:k] + [two, one] + weaving[k + 2:]


def all_alike(loom, weaving):
    """All weavings that are alike to one, itself among them, gone through by exchanges."""
    found = [list(weaving)]
    known = {tuple(weaving)}
    for each in found:
        for k, other in exchanges_of(loom, each):
            if tuple(other) not in known:
                known.add(tuple(other))
                found.append(other)
    return found


def left_told(loom, state, worker):
    """What a worker may still do."""
    place = state[2][worker][0]
    return [] if place == -1 else list(loom[3][loom[4][worker]][2][place:])


def enough_told(loom, state, workers):
    """Whether a set of workers is enough, word by word."""
    others = [worker for worker in range(len(loom[4])) if worker not in workers]
    steps = [next_told(loom, state, worker) for worker in workers]
    concerned = any(concern(step, left) for step in steps if step is not None
                    for other in others for left in left_told(loom, state, other))
    return any(worker in able_in(loom, state) for worker in workers) and not concerned


def kept_told(loom, state):
    """What is kept in a state: the least enough set with each able worker is looked for among all sets."""
    able = able_in(loom, state)
    everyone = range(len(loom[4]))
    sets = [each for many in everyone for each in itertools.combinations(everyone, many + 1)]
    chosen = ([], [])
    for worker in able:
        fitting = [each for each in sets if worker in each and enough_told(loom, state, each)]
        least = fitting[0]
        assert all(set(least) <= set(each) for each in fitting)
        going = [each for each in least if each in able]
        if chosen == ([], []) or len(going) < len(chosen[1]):
            chosen = (list(least), going)
    return chosen


def lean_weavings(loom):
    """Every weaving by kept workers alone, with the state it comes to, as all_weavings tells all of them."""
    going = {}
    layer = [([], first_of(loom))]
    while layer:
        yield from layer
        for weaving, state in layer:
            if state not in going:
                going[state] = kept_told(loom, state)[1]
        layer = [(weaving + [worker], stepped(loom, state, worker))
                 for weaving, state in layer for worker in going[state]]


def all_exchanges(loom):
    """Every exchange of alike workers."""
    workers = loom[4]
    for exchange in itertools.permutations(range(len(workers))):
        if all(workers[worker] == workers[exchange[worker]] for worker in exchange):
            yield list(exchange)


def exchanged_told(state, exchange):
    """A state exchanged, told apart from the program."""
    boxes, holders, spots = state
    made = {exchange[worker]: spot for worker, spot in enumerate(spots)}
    changed = dict(enumerate(exchange))
    changed[-1] = -1
    return (boxes, tuple(changed[holder] for holder in holders), tuple(made[worker] for worker in sorted(made)))


def folded_told(loom, state):
    """The least of all states that exchanges make of one, looked for among all of them."""
    made = [exchanged_told(state, exchange) for exchange in all_exchanges(loom)]
    return min(made, key=lambda each: (each[2], each[1]))


def folded_states(loom, lean):
    """The folded states that are come to, in the order in which they are found."""
    states = [folded_told(loom, first_of(loom))]
    known = set(states)
    for state in states:
        for worker in kept_told(loom, state)[1] if lean else able_in(loom, state):
            behind = folded_told(loom, stepped(loom, state, worker))
            if behind not in known:
                known.add(behind)
                states.append(behind)
    return states


def word_told(loom, state):
    """What an end is called, told apart from the program."""
    size, boxes, locks, programs, workers, claims = loom
    places = [place for place, owns in state[2]]
    numbers = dict(zip([name for name, number in boxes], state[0]))
    if -1 in places:
        return "broken"
    if any(place < len(programs[worker][2]) for place, worker in zip(places, workers)):
        return "stuck"
    return "good" if all(worth(claim, size, {}, numbers) for claim in claims) else "wrong"


def chance_value(chance, names, depth):
    """A value over names of one word (own or box) and numbers."""
    word = chance.choice(["number", "name", "plus", "minus", "less", "same", "not"][:2 if depth == 1 else 7])
    if word == "name" and names[1]:
        return (names[0], chance.choice(names[1]))
    if word in ("number", "name"):
        return ("number", chance.choice([0, 1, 2, 3, 10, 99]))
    if word == "not":
        return ("not", chance_value(chance, names, depth - 1))
    return (word, chance_value(chance, names, depth - 1), chance_value(chance, names, depth - 1))


def chance_step(chance, owns, boxes, locks, behind, depth):
    words = ["check", "skip", "unless"] + ["set"] * bool(owns) + ["get"] * bool(owns and boxes)
    words += ["put", "add", "wait"] * bool(boxes) + ["take", "give"] * 2 * bool(locks)
    word = chance.choice(words)
    value = chance_value(chance, ("own", owns), depth)
    return {
        "set": lambda: ("set", chance.choice(owns), value),
        "get": lambda: ("get", chance.choice(owns), chance.choice(boxes)),
        "put": lambda: ("put", chance.choice(boxes), value),
        "add": lambda: ("add", chance.choice(boxes), value),
        "take": lambda: ("take", chance.choice(locks)),
        "give": lambda: ("give", chance.choice(locks)),
        "wait": lambda: ("wait", chance.choice(boxes), value),
        "check": lambda: ("check", value),
        "skip": lambda: ("skip", chance.randint(0, behind)),
        "unless": lambda: ("unless", value, chance.randint(0, behind)),
    }[word]()


def chance_loom(seed, most_workers=3, most_steps=3, depth=2):
    """A loom of many: the same one for the same seed."""
    chance = random.Random(seed)
    size = chance.randint(2, 4)
    boxes = [(name, chance.randrange(size)) for name in "xy"[:chance.randint(0, 2)]]
    locks = list("lm"[:chance.randint(0, 2)])
    box_names = [name for name, number in boxes]
    programs = []
    for name in "pqr"[:chance.randint(1, 3)]:
        owns = [(own, chance.randrange(size)) for own in "ax"[:chance.randint(0, 2)]]
        own_names = [own for own, number in owns]
        behind = reversed(range(chance.randint(0, most_steps)))
        steps = [chance_step(chance, own_names, box_names, locks, many, depth) for many in behind]
        programs.append((name, tuple(owns), tuple(steps)))
    workers = [chance.randrange(len(programs)) for turn in range(chance.randint(1, most_workers))]
    claims = [chance_value(chance, ("box", box_names), depth) for turn in range(chance.randint(0, 2))]
    return (size, tuple(boxes), tuple(locks), tuple(programs), tuple(workers), tuple(claims))


def busy_loom(seed, most_workers=3, most_steps=3):
    """A loom of many, the same one for the same seed, whose steps mostly touch one of two boxes or a lock."""
    chance = random.Random(seed)
    steps = [("get", "a", "x"), ("get", "a", "y"), ("put", "x", ("number", 1)), ("put", "y", ("own", "a")),
             ("add", "x", ("number", 1)), ("add", "x", ("own", "a")), ("wait", "x", ("number", 1)),
             ("wait", "y", ("own", "a")), ("take", "l"), ("give", "l"), ("skip", 0), ("unless", ("own", "a"), 0)]
    programs = [[chance.choice(steps) for place in range(chance.randint(1, most_steps))] for name in "pq"]
    made = tuple((name, (("a", 0),), tuple(program)) for name, program in zip("pq", programs))
    workers = tuple(chance.randrange(2) for turn in range(chance.randint(2, most_workers)))
    return (3, (("x", 0), ("y", 0)), ("l",), made, workers, ())


def paired_loom(seed, most_workers=3):
    """A loom of many, the same one for the same seed, mostly with alike workers, and often with ends of several words."""
    chance = random.Random(seed)
    one = ("number", 1)
    pieces = [[("get", "a", "x"), ("put", "x", ("plus", ("own", "a"), one))], [("take", "l"), ("take", "m")],
              [("take", "m"), ("take", "l")], [("take", "l"), ("add", "y", one), ("give", "l")], [("add", "x", one)],
              [("get", "a", "x"), ("check", ("less", ("own", "a"), one))], [("get", "a", "y")], [("take", "l")],
              [("wait", "y", ("own", "a"))], [("give", "l")], [("unless", ("own", "a"), 0)], [("put", "y", one)],
              [("get", "a", "x"), ("unless", ("own", "a"), 1), ("take", "m")]]
    programs = [sum(chance.sample(pieces, chance.randint(1, 2)), []) for name in "pq"]
    made = tuple((name, (("a", 0),), tuple(program)) for name, program in zip("pq", programs))
    workers = tuple(chance.choice([0, 0, 1]) for turn in range(chance.randint(2, most_workers)))
    claims = [("not", ("same", ("box", "x"), one)), ("less", ("box", "y"), ("number", 2))]
    chance.shuffle(claims)
    return (3, (("x", 0), ("y", 0)), ("l", "m"), made, workers, tuple(claims[:chance.randint(0, 2)]))


class HandedTest(unittest.TestCase):
    """What several tests ask of what is told, refused and handed in."""

    def same(self, one, other):
        self.assertEqual(kinds_of(one), kinds_of(other))

    def refused(self, error, call, *handed):
        kept = copy.deepcopy(handed)
        try:
            call(*handed)
        except ValueError as e:
            self.assertIs(type(e), error)
        else:
            self.fail("not refused")
        self.same(handed, kept)

    def own(self, call, *handed):
        """A list that was told is changed, and what is told later is as at first; so is what was handed in."""
        before = copy.deepcopy(handed)
        first = call(*handed)
        kept = copy.deepcopy(first)
        later = call(*handed)
        first.reverse()
        first.append(None)
        self.same(call(*handed), kept)
        call(*handed).clear()
        self.same(later, kept)
        self.same(handed, before)
