"""The names and arguments of the interface, as the document tells them."""

import importlib
import inspect
import unittest

INTERFACE = {
    "values": ["is_name(thing)", "is_value(thing, owns, boxes)", "worth(value, size, owns, boxes)"],
    "steps": ["is_step(thing, owns, boxes, locks, behind)", "touched(step)", "apart(step, other)"],
    "looms": ["loom_of(size, boxes, locks, programs, workers, claims)"],
    "texts": ["written(loom)", "read(text)", "step_words(step)"],
    "machines": ["Machine(loom)"],
    "weaving": ["woven(loom, weaving)", "told(loom, weaving)", "word_of(loom, state)"],
    "looking": ["seen(loom)", "ends(loom)", "way_to(loom, state)", "many(loom)", "closed(loom, states)"],
    "exchanging": ["may_exchange(loom, weaving, k)", "settled(loom, weaving)", "alike(loom, one, other)"],
    "once": ["each_once(loom)"],
    "leaving": ["may_still(loom, state, worker)", "enough(loom, state, workers)", "kept(loom, state)"],
    "lean": ["lean_seen(loom)", "lean_ends(loom)", "lean_way(loom, state)"],
    "folding": ["classes(loom)", "exchanged(state, exchange)", "fold(loom, state)"],
    "folded": ["folded_seen(loom, lean=False)", "folded_ends(loom, lean=False)", "folded_way(loom, state, lean=False)"],
    "judging": ["verdict(loom, looking='plain')", "ends_by(loom, looking)"],
    "reports": ["report(text, looking='plain')"],
}

METHODS = ["first(self)", "able(self, state)", "step(self, state, worker)", "next_step(self, state, worker)"]

ERRORS = ["NoLoom", "NoStep", "NoClaim", "NoText", "NoMove", "TooMany", "NoWay"]


def module(name):
    return importlib.import_module("loomlook." + name)


def shown(holder, told):
    name = told.partition("(")[0]
    return name + str(inspect.signature(getattr(holder, name)))


class InterfaceTest(unittest.TestCase):
    def test_functions(self):
        for name, functions in INTERFACE.items():
            for told in functions:
                self.assertEqual(shown(module(name), told), told)

    def test_the_machine(self):
        for told in METHODS:
            self.assertEqual(shown(module("machines").Machine, told), told)

    def test_errors(self):
        errors = module("errors")
        self.assertEqual(errors.LoomError.__bases__, (ValueError,))
        for name in ERRORS:
            self.assertEqual(getattr(errors, name).__bases__, (errors.LoomError,))
