"""Looms: six parts, looked through before they are made into one."""

from loomlook.errors import NoClaim, NoLoom, NoStep
from loomlook.steps import is_step
from loomlook.values import is_name, is_number, is_value

LEAST_SIZE = 2
GREATEST_SIZE = 16
MOST_BOXES = 8
MOST_LOCKS = 4
MOST_PROGRAMS = 4
MOST_OWNS = 4
MOST_STEPS = 30
MOST_WORKERS = 6
MOST_CLAIMS = 4


def loom_of(size, boxes, locks, programs, workers, claims):
    # Each kind of refusal is looked for in the whole loom before the next kind is.
    ask_parts(size, boxes, locks, programs, workers, claims)
    ask_steps(programs, names_of(boxes), list(locks))
    ask_claims(claims, names_of(boxes))
    return (size, boxes, locks, programs, workers, claims)


def ask_parts(size, boxes, locks, programs, workers, claims):
    # Size comes first, as the numbers of boxes and owns are held against it.
    if not is_number(size, LEAST_SIZE, GREATEST_SIZE):
        raise NoLoom("size is no number from 2 to 16")
    if not are_holdings(boxes, MOST_BOXES, size):
        raise NoLoom("boxes are not 0 to 8 pairs of unlike names and numbers below size")
    if not are_locks(locks, names_of(boxes)):
        raise NoLoom("locks are not 0 to 4 names unlike one another and the boxes")
    if not are_programs(programs, size):
        raise NoLoom("programs are not 1 to 4 triples of unlike names, owns and steps")
    if not are_workers(workers, len(programs)):
        raise NoLoom("workers are not 1 to 6 numbers of programs")
    if not is_tuple_of(claims, 0, MOST_CLAIMS):
        raise NoLoom("claims are not a tuple of 0 to 4")


def is_tuple_of(thing, fewest, most):
    return isinstance(thing, tuple) and fewest <= len(thing) <= most


def names_of(things):
    return [thing[0] for thing in things]


def are_unlike(names):
    return len(set(names)) == len(names)


def are_holdings(thing, most, size):
    if not is_tuple_of(thing, 0, most):
        return False
    return all([is_holding(pair, size) for pair in thing]) and are_unlike(names_of(thing))


def is_holding(thing, size):
    return is_tuple_of(thing, 2, 2) and is_name(thing[0]) and is_number(thing[1], 0, size - 1)


def are_locks(thing, box_names):
    if not is_tuple_of(thing, 0, MOST_LOCKS):
        return False
    return all([is_name(lock) for lock in thing]) and are_unlike(box_names + list(thing))


def are_programs(thing, size):
    if not is_tuple_of(thing, 1, MOST_PROGRAMS):
        return False
    return all([is_program(program, size) for program in thing]) and are_unlike(names_of(thing))


def is_program(thing, size):
    if not is_tuple_of(thing, 3, 3):
        return False
    return is_name(thing[0]) and are_holdings(thing[1], MOST_OWNS, size) and is_tuple_of(thing[2], 0, MOST_STEPS)


def are_workers(thing, many_programs):
    if not is_tuple_of(thing, 1, MOST_WORKERS):
        return False
    return all([is_number(worker, 0, many_programs - 1) for worker in thing])


def ask_steps(programs, box_names, locks):
    for name, owns, steps in programs:
        own_names = names_of(owns)
        for place, step in enumerate(steps):
            if not is_step(step, own_names, box_names, locks, len(steps) - place - 1):
                raise NoStep(f"program {name} has no step at place {place}")


def ask_claims(claims, box_names):
    for place, claim in enumerate(claims):
        if not is_value(claim, [], box_names):
            raise NoClaim(f"claim {place} is no value over the boxes alone")
