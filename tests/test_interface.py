"""The interface as a whole: names, where they are defined, and arguments by position and by name."""

import importlib
import inspect
import itertools
import unittest

from neithertells.assembly import assemble
from neithertells.bounds import busiest, most_acts
from neithertells.desk import Desk
from neithertells.house import House
from neithertells.listings import Listing
from neithertells.looker import holds
from neithertells.notation import read, show
from neithertells.papers import paper_of
from neithertells.programs import is_program
from neithertells.replay import replay
from neithertells.runs import Run, run
from samples import program, view

TELLER = program("teller; ask x+3 a; answer 0")
COLLECTOR = program("collector; while a == 0; list 3; grow 2; end")

VALUES = (
    ("programs", "MOST_STATEMENTS", 24), ("programs", "MOST_DEPTH", 4), ("programs", "LONGEST_WAIT", 10 ** 30),
    ("house", "SIDES", ("left", "right")), ("house", "MOST_MACHINES", 8),
)

FUNCTIONS = (
    ("programs", "is_program", "(thing)"),
    ("notation", "show", "(program)"),
    ("notation", "read", "(text)"),
    ("assembly", "assemble", "(program)"),
    ("runs", "run", "(program, position, members, *, limit=None)"),
    ("bounds", "most_acts", "(kinds)"),
    ("bounds", "busiest", "(many)"),
    ("papers", "paper_of", "(house, number)"),
    ("looker", "holds", "(paper, facts, left, right)"),
    ("replay", "replay", "(history)"),
)

CLASSES = (
    ("listings", "Listing", {
        "__init__": "(self, program)", "__eq__": "(self, other)", "is_endless": "(self)", "until": "(self, age)",
        "first_outside": "(self, barred)", "first_inside": "(self, members)",
    }),
    ("runs", "Run", {"__eq__": "(self, other)"}),
    ("house", "House", {
        "__init__": "(self)", "__eq__": "(self, other)", "__len__": "(self)", "__repr__": "(self)",
        "arrive": "(self, program, *, side)", "withdraw": "(self, number)", "advance": "(self, many=1, *, watch=None)",
        "settle": "(self, *, watch=None)", "next_act": "(self)", "clock": "(self)", "members": "(self, side)",
        "guards": "(self, side)", "numbers": "(self)", "rank": "(self, number)", "is_satisfied": "(self, number)",
        "starts": "(self, number)", "acts": "(self, number)", "facts": "(self, number)", "history": "(self)",
        "undo": "(self)", "twin": "(self)",
    }),
    ("desk", "Desk", {"__init__": "(self)", "say": "(self, row)"}),
)


def settled_house():
    house = House()
    house.arrive(TELLER, side="left")
    house.arrive(COLLECTOR, side="left")
    house.settle()
    return house


class DefinitionTest(unittest.TestCase):
    def test_values(self):
        for file, name, value in VALUES:
            self.assertEqual(getattr(importlib.import_module(f"neithertells.{file}"), name), value)

    def test_functions(self):
        for file, name, signature in FUNCTIONS:
            function = getattr(importlib.import_module(f"neithertells.{file}"), name)
            self.assertTrue(inspect.isfunction(function), name)
            self.assertEqual(function.__module__, f"neithertells.{file}")
            self.assertEqual(str(inspect.signature(function)), signature, name)

    def test_classes_and_their_own_methods(self):
        for file, name, methods in CLASSES:
            found = getattr(importlib.import_module(f"neithertells.{file}"), name)
            self.assertTrue(inspect.isclass(found), name)
            self.assertEqual(found.__module__, f"neithertells.{file}")
            for method, signature in methods.items():
                self.assertIn(method, vars(found), name)
                self.assertEqual(str(inspect.signature(vars(found)[method])), signature, (name, method))

    def test_attributes(self):
        done = run(TELLER, 5, [])
        self.assertIsInstance(done, Run)
        for name in ("outcome", "answer", "length", "first", "second", "asked"):
            self.assertIn(name, vars(done))
        for name in ("head", "cycle", "period", "shift"):
            self.assertIn(name, vars(Listing(COLLECTOR)))


class NameTest(unittest.TestCase):
    def check(self, call, names, values, **more):
        """The same result by position and by name, in each order."""
        found = call(*values, **more)
        for many in range(len(names) + 1):
            for order in itertools.permutations(range(many, len(names))):
                named = {names[at]: values[at] for at in order}
                self.assertEqual(call(*values[:many], **named, **more), found)

    def test_functions(self):
        facts = ("teller", TELLER, "left", 0)
        for call, names, values in (
            (is_program, "thing", (TELLER,)), (is_program, "thing", (None,)), (show, "program", (TELLER,)),
            (read, "text", ("collector",)), (assemble, "program", (COLLECTOR,)), (run, "program position members", (TELLER, 5, [8])),
            (most_acts, "kinds", (["teller", "collector"],)), (busiest, "many", (3,)), (paper_of, "house number", (settled_house(), 1)),
            (holds, "paper facts left right", (("member", 2, [3]), facts, [], [0])),
            (holds, "paper facts left right", (("member", 2, [3]), facts, [0], [])),
            (replay, "history", ([("advance", 3)],)),
        ):
            self.check(call, names.split(), values)
        self.check(run, ["program", "position", "members"], (TELLER, 5, [8]), limit=1)

    def test_methods_that_tell(self):
        listing, house = Listing(COLLECTOR), settled_house()
        self.assertEqual(Listing(program=COLLECTOR), listing)
        for call, names, values in (
            (listing.is_endless, "", ()), (listing.until, "age", (9,)), (listing.first_outside, "barred", ([3],)),
            (listing.first_inside, "members", ([9],)), (house.next_act, "", ()), (house.clock, "", ()), (house.members, "side", ("left",)),
            (house.guards, "side", ("left",)), (house.numbers, "", ()), (house.rank, "number", (1,)), (house.is_satisfied, "number", (1,)),
            (house.starts, "number", (1,)), (house.acts, "number", (1,)), (house.facts, "number", (1,)), (house.history, "", ()),
            (house.twin, "", ()), (Desk().say, "row", ("clock",)),
        ):
            self.check(call, names.split(), values)

    def test_deeds(self):
        for one, other in (
            (lambda house: house.arrive(TELLER, side="right"), lambda house: house.arrive(side="right", program=TELLER)),
            (lambda house: house.withdraw(0), lambda house: house.withdraw(number=0)),
            (lambda house: house.advance(), lambda house: house.advance(many=1)),
            (lambda house: house.advance(5), lambda house: house.advance(watch=None, many=5)),
            (lambda house: house.settle(), lambda house: house.settle(watch=None)),
        ):
            houses = [settled_house(), settled_house()]
            self.assertEqual(one(houses[0]), other(houses[1]))
            self.assertEqual(view(houses[0]), view(houses[1]))

    def test_by_name_only(self):
        house = settled_house()
        for call, values in ((run, (TELLER, 5, [], 3)), (house.arrive, (TELLER, "left")), (house.advance, (1, None)), (house.settle, (None,))):
            with self.assertRaises(TypeError):
                call(*values)
        self.assertEqual(house, settled_house())


if __name__ == "__main__":
    unittest.main()
