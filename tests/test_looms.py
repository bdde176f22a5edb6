import copy
import itertools
import re
import unittest

from loomlook.errors import NoClaim, NoLoom, NoStep
from loomlook.looms import loom_of
from tests.helper import GREATEST, ORDINARY, PARTS, SMALLEST, chain, deep_list, deep_tuple, held, letters
from tests.helper import spoiled, strange_things, things_with, with_part


def is_tuple(thing, fewest, most):
    return type(thing) is tuple and fewest <= len(thing) <= most


def is_name(thing):
    return type(thing) is str and re.fullmatch("[a-z]{1,8}", thing) is not None and "\n" not in thing


def are_pairs(thing, most, size):
    if not is_tuple(thing, 0, most) or not all(is_tuple(pair, 2, 2) for pair in thing):
        return False
    names = [pair[0] for pair in thing]
    numbers = [pair[1] for pair in thing]
    if not all(is_name(name) for name in names) or len(set(names)) < len(names):
        return False
    return all(type(number) is int and number in range(size) for number in numbers)


def is_loom_form(size, boxes, locks, programs, workers, claims):
    if type(size) is not int or size not in range(2, 17) or not are_pairs(boxes, 8, size):
        return False
    if not is_tuple(locks, 0, 4) or not all(is_name(lock) for lock in locks):
        return False
    if len(set(locks) | {name for name, number in boxes}) < len(locks) + len(boxes):
        return False
    if not is_tuple(programs, 1, 4) or not all(is_tuple(program, 3, 3) for program in programs):
        return False
    for name, owns, steps in programs:
        if not is_name(name) or not are_pairs(owns, 4, size) or not is_tuple(steps, 0, 30):
            return False
    if len({name for name, owns, steps in programs}) < len(programs) or not is_tuple(workers, 1, 6):
        return False
    if not all(type(worker) is int and worker in range(len(programs)) for worker in workers):
        return False
    return is_tuple(claims, 0, 4)


def is_right_value(thing, owns, boxes, depth=5):
    if depth == 0 or not is_tuple(thing, 2, 3) or type(thing[0]) is not str:
        return False
    word, parts = thing[0], thing[1:]
    if len(parts) == 1 and word == "number":
        return type(parts[0]) is int and 0 <= parts[0] < 100
    if len(parts) == 1 and word in ("own", "box"):
        return type(parts[0]) is str and parts[0] in {"own": owns, "box": boxes}[word]
    if (word, len(parts)) not in [("not", 1), ("plus", 2), ("minus", 2), ("less", 2), ("same", 2)]:
        return False
    return all(is_right_value(part, owns, boxes, depth - 1) for part in parts)


def is_right_step(thing, owns, boxes, locks, behind):
    if not is_tuple(thing, 2, 3) or type(thing[0]) is not str:
        return False
    right = {
        "o": lambda part: type(part) is str and part in owns,
        "b": lambda part: type(part) is str and part in boxes,
        "l": lambda part: type(part) is str and part in locks,
        "v": lambda part: is_right_value(part, owns, []),
        "k": lambda part: type(part) is int and 0 <= part <= behind,
    }
    forms = {"set": "ov", "get": "ob", "put": "bv", "add": "bv", "take": "l", "give": "l", "wait": "bv",
             "check": "v", "skip": "k", "unless": "vk"}
    form = forms.get(thing[0], "")
    return len(form) == len(thing) - 1 and all(right[kind](part) for kind, part in zip(form, thing[1:]))


def due(loom):
    """The refusal that is due, None where none is: told apart from the program."""
    if not is_loom_form(*loom):
        return NoLoom
    size, boxes, locks, programs, workers, claims = loom
    box_names = [name for name, number in boxes]
    for name, owns, steps in programs:
        own_names = [own for own, number in owns]
        for place, step in enumerate(steps):
            if not is_right_step(step, own_names, box_names, locks, len(steps) - 1 - place):
                return NoStep
    if not all(is_right_value(claim, [], box_names) for claim in claims):
        return NoClaim
    return None


class LoomTest(unittest.TestCase):
    def made(self, loom):
        made = loom_of(*loom)
        self.assertIs(type(made), tuple)
        self.assertEqual(made, loom)
        self.assertEqual([type(part) for part in made], [int, tuple, tuple, tuple, tuple, tuple])
        self.assertEqual(loom_of(*loom), made)

    def refused(self, loom, error):
        try:
            loom_of(*loom)
        except ValueError as e:
            self.assertIs(type(e), error, str(e))
        else:
            self.fail("not refused")

    def no_loom(self, loom=ORDINARY, **changes):
        self.refused(with_part(loom, **changes), NoLoom)


class RightLoomsTest(LoomTest):
    def test_ordinary_looms(self):
        self.made(ORDINARY)
        self.made(with_part(ORDINARY, claims=()))
        self.made(with_part(ORDINARY, workers=(1,)))

    def test_lower_bounds_at_once(self):
        self.made(SMALLEST)

    def test_upper_bounds_at_once(self):
        self.made(GREATEST)

    def test_each_size(self):
        for size in range(2, 17):
            self.made(with_part(SMALLEST, size=size, boxes=(("x", size - 1), ("y", 0))))

    def test_an_own_called_like_a_box_a_lock_a_program_or_another_program_s_own(self):
        own = (("p", (("x", 1), ("l", 0), ("p", 0)), (("get", "x", "x"), ("get", "l", "x"), ("take", "l"))),
               ("q", (("x", 0),), (("put", "x", ("own", "x")),)))
        self.made(with_part(SMALLEST, boxes=(("x", 1),), locks=("l",), programs=own))

    def test_a_program_called_like_a_box_or_a_lock(self):
        self.made(with_part(SMALLEST, boxes=(("p", 1),), locks=("q",), programs=(("p", (), ()), ("q", (), ()))))

    def test_programs_without_workers_and_workers_out_of_order(self):
        programs = (("p", (), ()), ("q", (), ()), ("r", (), ()))
        self.made(with_part(SMALLEST, programs=programs, workers=(2, 0, 2)))

    def test_owns_are_those_of_the_step_s_own_program(self):
        one = ("p", (("a", 0),), (("set", "a", ("own", "a")),))
        other = ("q", (("b", 0),), (("set", "b", ("own", "b")),))
        self.made(with_part(SMALLEST, programs=(one, other)))
        self.refused(with_part(SMALLEST, programs=(one, ("q", (("b", 0),), one[2]))), NoStep)
        self.refused(with_part(SMALLEST, programs=(("p", (("a", 0),), other[2]), other)), NoStep)


class BoundsTest(LoomTest):
    def test_size(self):
        for size in [1, 0, -1, 17, 100, 10 ** 30, True, False, None, "2", [2], (2,)]:
            self.no_loom(SMALLEST, size=size)

    def test_boxes(self):
        self.made(with_part(SMALLEST, boxes=held(8)))
        self.no_loom(SMALLEST, boxes=held(9))

    def test_locks(self):
        self.made(with_part(SMALLEST, locks=tuple(letters(4))))
        self.no_loom(SMALLEST, locks=tuple(letters(5)))

    def test_programs(self):
        programs = tuple((name, (), ()) for name in letters(5))
        self.made(with_part(SMALLEST, programs=programs[:4]))
        self.no_loom(SMALLEST, programs=programs)
        self.no_loom(SMALLEST, programs=())

    def test_owns(self):
        self.made(with_part(SMALLEST, programs=(("p", held(4), ()),)))
        self.no_loom(SMALLEST, programs=(("p", held(5), ()),))

    def test_steps(self):
        for step in [("skip", 0), ("check", ("number", 1))]:
            self.made(with_part(SMALLEST, programs=(("p", (), (step,) * 30),)))
            self.no_loom(SMALLEST, programs=(("p", (), (step,) * 31),))

    def test_workers(self):
        self.made(with_part(SMALLEST, workers=(0,) * 6))
        self.no_loom(SMALLEST, workers=(0,) * 7)
        self.no_loom(SMALLEST, workers=())

    def test_claims(self):
        self.made(with_part(SMALLEST, claims=(("number", 0),) * 4))
        self.no_loom(SMALLEST, claims=(("number", 0),) * 5)

    def test_numbers_of_boxes_and_owns(self):
        for size in [2, 7, 16]:
            for number in [0, size - 1]:
                self.made(with_part(SMALLEST, size=size, boxes=(("x", number),), programs=(("p", (("a", number),), ()),)))
            for number in [-1, size, 99, True, False, None, "0", [0], (0,)]:
                self.no_loom(SMALLEST, size=size, boxes=(("x", number),))
                self.no_loom(SMALLEST, size=size, programs=(("p", (("a", number),), ()),))

    def test_numbers_of_workers(self):
        for workers in [(0,), (1,), (1, 0), (0, 1, 1)]:
            self.made(with_part(ORDINARY, workers=workers))
        for worker in [2, 3, -1, True, False, None, "0", "adder", [0], (0,)]:
            self.no_loom(workers=(worker,))
            self.no_loom(workers=(0, 1, worker))

    def test_k_is_held_against_the_steps_behind(self):
        rest = (("check", ("number", 1)),) * 3
        for k in [0, 1, 3]:
            self.made(with_part(SMALLEST, programs=(("p", (), (("skip", k),) + rest),)))
            self.made(with_part(SMALLEST, programs=(("p", (), rest + (("unless", ("number", 0), k),) + rest),)))
        for k in [4, 30, -1, True]:
            self.refused(with_part(SMALLEST, programs=(("p", (), (("skip", k),) + rest),)), NoStep)
            self.refused(with_part(SMALLEST, programs=(("p", (), rest + (("skip", k),) + rest),)), NoStep)
        self.refused(with_part(SMALLEST, programs=(("p", (), (("skip", 1),)),)), NoStep)
        longest = (("skip", 29),) + (("skip", 0),) * 29
        self.made(with_part(SMALLEST, programs=(("p", (), longest),)))


class NamesTest(LoomTest):
    def test_names_told_twice(self):
        self.no_loom(SMALLEST, boxes=(("x", 0), ("x", 0)))
        self.no_loom(SMALLEST, boxes=(("x", 0), ("y", 0), ("x", 1)))
        self.no_loom(SMALLEST, locks=("l", "l"))
        self.no_loom(SMALLEST, locks=("l", "m", "l"))
        self.no_loom(SMALLEST, programs=(("p", (), ()), ("p", (), ())))
        self.no_loom(SMALLEST, programs=(("p", (), ()), ("q", (), ()), ("p", (("a", 0),), ())))
        self.no_loom(SMALLEST, programs=(("p", (("a", 0), ("a", 1)), ()),))
        self.no_loom(SMALLEST, programs=(("q", (), ()), ("p", (("a", 0), ("b", 1), ("a", 0)), ())))

    def test_a_box_and_a_lock_called_alike(self):
        self.no_loom(SMALLEST, boxes=(("n", 0),), locks=("n",))
        self.no_loom(SMALLEST, boxes=(("x", 0), ("n", 0)), locks=("l", "n"))

    def test_what_is_no_name(self):
        for name in ["", "abcdefghi", "A", "a1", "a b", "a\n", "\t", 0, True, None, ["a"], ("a",), deep_tuple(9000)]:
            self.no_loom(SMALLEST, boxes=((name, 0),))
            self.no_loom(SMALLEST, locks=(name,))
            self.no_loom(SMALLEST, programs=((name, (), ()),))
            self.no_loom(SMALLEST, programs=(("p", ((name, 0),), ()),))
        for name in ["a", "abcdefgh"]:
            self.made(with_part(SMALLEST, boxes=((name, 0),), programs=((name, ((name, 0),), ()),)))
            self.made(with_part(SMALLEST, locks=(name,)))


class ReplacedTest(LoomTest):
    def as_due(self, loom):
        error = due(loom)
        if error is None:
            self.made(loom)
        else:
            self.refused(loom, error)
        return error

    def test_each_part_replaced_whole(self):
        for place, part in enumerate(PARTS):
            for strange in strange_things():
                self.as_due(things_with(ORDINARY, place, strange))

    def test_each_thing_within_a_part_replaced(self):
        met = {None: 0, NoLoom: 0, NoStep: 0, NoClaim: 0}
        for place, part in enumerate(ORDINARY):
            for other in spoiled(part):
                met[self.as_due(things_with(ORDINARY, place, other))] += 1
        for error, times in met.items():
            self.assertGreater(times, 100, error)

    def test_lists_for_tuples(self):
        for part in PARTS[1:]:
            self.no_loom(**{part: list(dict(zip(PARTS, ORDINARY))[part])})
        name, owns, steps = ORDINARY[3][0]
        for program in [[name, owns, steps], (name, list(owns), steps), (name, owns, list(steps)),
                        (name, (["a", 0], ("b", 3)), steps)]:
            self.no_loom(programs=(program, ORDINARY[3][1]))
        self.no_loom(boxes=(["x", 0], ("y", 9)))
        self.refused(with_part(ORDINARY, programs=((name, owns, tuple(list(step) for step in steps)),),
                               workers=(0,)), NoStep)
        self.refused(with_part(ORDINARY, claims=(["not", ("box", "y")],)), NoClaim)

    def test_steps_and_claims_may_be_anything_and_are_refused_as_such(self):
        for strange in strange_things():
            if strange != ("skip", 0):
                self.refused(with_part(SMALLEST, programs=(("p", (), (strange,)),)), NoStep)
            if strange != ("number", 1):
                self.refused(with_part(SMALLEST, claims=(strange,)), NoClaim)

    def test_claims_hold_no_owns(self):
        program = ("p", (("n", 0), ("a", 0)), ())
        for claim in [("own", "n"), ("own", "a"), ("not", ("own", "n")), ("plus", ("box", "n"), ("own", "n")),
                      ("box", "a"), ("box", "l")]:
            self.refused(with_part(SMALLEST, boxes=(("n", 0),), locks=("l",), programs=(program,), claims=(claim,)),
                         NoClaim)
            self.refused(with_part(SMALLEST, boxes=(("n", 0),), locks=("l",), programs=(program,),
                                   claims=(("box", "n"), ("number", 1), claim)), NoClaim)

    def test_claims_five_deep_and_six(self):
        self.made(with_part(ORDINARY, claims=(chain(("box", "x"), 4),)))
        self.refused(with_part(ORDINARY, claims=(chain(("box", "x"), 5),)), NoClaim)

    def test_what_is_nested_far_deeper(self):
        for thing in [deep_tuple(50000), deep_list(50000), chain(("number", 1), 50000)]:
            for part in PARTS[:5]:
                self.no_loom(**{part: thing})
            self.refused(with_part(ORDINARY, claims=thing), NoLoom if isinstance(thing, list) else NoClaim)
            for part in PARTS[1:5]:
                self.no_loom(**{part: (thing,)})
            self.no_loom(boxes=(("x", thing),))
            self.no_loom(boxes=((thing, 0),))
            self.no_loom(programs=(("p", thing, ()),), workers=(0,))
            self.no_loom(programs=((thing, (), ()),), workers=(0,))
            self.refused(with_part(SMALLEST, programs=(("p", (), (thing,)),)), NoStep)
            self.refused(with_part(SMALLEST, programs=(("p", (), (("check", thing),)),)), NoStep)
            self.refused(with_part(SMALLEST, claims=(thing,)), NoClaim)


class OrderTest(LoomTest):
    NO_PARTS = {"size": 1, "boxes": (("x", 0), ("y", 10)), "locks": ("l", "x"), "workers": (0, 2)}

    def spoiled_by(self, no_loom, bad_step, bad_claim):
        programs = ORDINARY[3]
        claims = ORDINARY[5]
        if bad_step is not None:
            name, owns, steps = programs[bad_step]
            programs = things_with(programs, bad_step, (name, owns, steps + (("skip", 1),)))
        if bad_claim is not None:
            claims = things_with(claims, bad_claim, ("own", "a"))
        loom = with_part(ORDINARY, programs=programs, claims=claims)
        if no_loom == "claims":
            loom = with_part(loom, claims=list(claims))
        elif no_loom == "names":
            loom = with_part(loom, programs=(programs[0], programs[1], ("adder", (), ())))
        elif no_loom is not None:
            loom = with_part(loom, **{no_loom: self.NO_PARTS[no_loom]})
        return loom

    def test_two_and_three_faults_at_once(self):
        no_looms = [None, "size", "boxes", "locks", "workers", "claims", "names"]
        for no_loom, bad_step, bad_claim in itertools.product(no_looms, [None, 0, 1], [None, 0, 1]):
            loom = self.spoiled_by(no_loom, bad_step, bad_claim)
            with self.subTest(no_loom=no_loom, bad_step=bad_step, bad_claim=bad_claim):
                if no_loom is not None:
                    self.refused(loom, NoLoom)
                elif bad_step is not None:
                    self.refused(loom, NoStep)
                elif bad_claim is not None:
                    self.refused(loom, NoClaim)
                else:
                    self.made(loom)

    def test_a_step_of_an_earlier_program_and_a_later_part(self):
        bad = ("p", (), (("take", "l"),))
        self.refused(with_part(SMALLEST, programs=(bad,)), NoStep)
        self.no_loom(SMALLEST, programs=(bad, ("q", [], ())))
        self.no_loom(SMALLEST, programs=(bad,), workers=(1,))
        self.no_loom(SMALLEST, programs=(bad,), claims=[("number", 1)])
        self.no_loom(SMALLEST, programs=(bad,), claims=(("own", "a"),) * 5)
        self.refused(with_part(SMALLEST, programs=(bad,), claims=(("own", "a"),)), NoStep)
        self.refused(with_part(SMALLEST, programs=(("q", (), ()), bad), claims=(None,)), NoStep)


class UntouchedTest(LoomTest):
    def test_what_is_handed_in_stays(self):
        looms = [ORDINARY, GREATEST, SMALLEST]
        for place, part in enumerate(ORDINARY):
            looms.append(things_with(ORDINARY, place, [part]))
            if place > 0:
                looms.append(things_with(ORDINARY, place, list(part)))
                looms.append(things_with(ORDINARY, place, tuple([list(part)])))
        name, owns, steps = ORDINARY[3][0]
        looms.append(with_part(ORDINARY, programs=[[name, list(owns), [list(step) for step in steps]]]))
        looms.append(with_part(ORDINARY, programs=((name, owns, (["skip", 0],)),), workers=(0,)))
        for loom in looms:
            kept = copy.deepcopy(loom)
            try:
                loom_of(*loom)
            except ValueError:
                pass
            self.assertEqual(loom, kept)

    def test_a_refusal_leaves_nothing_behind(self):
        self.made(ORDINARY)
        self.no_loom(size=1)
        self.refused(with_part(ORDINARY, claims=(None,)), NoClaim)
        self.made(ORDINARY)
