import itertools
import unittest

from neithertells.assembly import assemble
from neithertells.bounds import busiest
from neithertells.desk import Desk
from neithertells.errors import BadHistory, BadProgram, BadRow, BadSide, BadSteps, BadText, Busy, Full
from neithertells.errors import HouseError, NoMachine, NothingDone, TooMany, Unsettled
from neithertells.house import House
from neithertells.listings import Listing
from neithertells.notation import read, show
from neithertells.papers import paper_of
from neithertells.replay import replay
from neithertells.runs import run
from samples import program

FORM_ERRORS = (BadProgram, BadText, BadSide, BadSteps, BadHistory, BadRow)
OTHER_ERRORS = (NoMachine, Full, TooMany, Busy, Unsettled, NothingDone)


class ClassTest(unittest.TestCase):
    def test_direct_bases(self):
        self.assertEqual(HouseError.__bases__, (ValueError,))
        for error in FORM_ERRORS:
            self.assertTrue(issubclass(error, HouseError), error)
        self.assertTrue(issubclass(NoMachine, LookupError))
        self.assertTrue(issubclass(Full, OverflowError))
        self.assertTrue(issubclass(TooMany, OverflowError))
        self.assertTrue(issubclass(Busy, RuntimeError))
        self.assertTrue(issubclass(Unsettled, RuntimeError))
        self.assertTrue(issubclass(NothingDone, IndexError))

    def test_none_is_a_subclass_of_another_one(self):
        for one, other in itertools.permutations(FORM_ERRORS + OTHER_ERRORS, 2):
            self.assertFalse(issubclass(one, other), (one, other))

    def test_the_others_are_no_house_errors(self):
        for error in OTHER_ERRORS:
            self.assertFalse(issubclass(error, ValueError), error)
        self.assertFalse(issubclass(NoMachine, (KeyError, IndexError)))
        self.assertFalse(issubclass(Busy, NotImplementedError))
        self.assertFalse(issubclass(Unsettled, NotImplementedError))

    def test_all_stand_in_the_module_of_errors(self):
        for error in (HouseError,) + FORM_ERRORS + OTHER_ERRORS:
            self.assertEqual(error.__module__, "neithertells.errors")

    def test_those_without_attributes_take_a_message(self):
        for error in (HouseError, BadProgram, BadSide, BadSteps, BadRow, TooMany, Busy, Unsettled, NothingDone):
            self.assertEqual(str(error("why")), "why")


class AttributeTest(unittest.TestCase):
    def test_line(self):
        for line in (0, 7, None):
            self.assertEqual(BadText(line).line, line)
            self.assertEqual(BadText(line=line).line, line)

    def test_index(self):
        for index in (0, 7, None):
            self.assertEqual(BadHistory(index).index, index)
            self.assertEqual(BadHistory(index=index).index, index)

    def test_number_is_the_argument(self):
        for number in (0, -1, 10 ** 99, None, "0", "", [], [0, [1]], (0,), ((), [])):
            self.assertEqual(NoMachine(number).number, number)
            self.assertEqual(NoMachine(number=number).number, number)
        self.assertIs(NoMachine(True).number, True)
        self.assertIs(NoMachine(False).number, False)

    def test_number_is_not_kept(self):
        inner = [1]
        number = [inner, (inner,)]
        error = NoMachine(number)
        inner.append(2)
        number.append(3)
        self.assertEqual(error.number, [[1], ([1],)])

    def test_most(self):
        self.assertEqual(Full().most, 8)
        self.assertEqual(Full(8).most, 8)
        self.assertEqual(Full(most=8).most, 8)

    def test_attributes_are_those_of_the_object(self):
        one = BadText(1)
        other = BadText(2)
        self.assertEqual([one.line, other.line], [1, 2])
        one = BadHistory(1)
        other = BadHistory(2)
        self.assertEqual([one.index, other.index], [1, 2])

    def test_messages_can_be_shown(self):
        for error in (BadText(1), BadText(None), BadHistory(1), BadHistory(None), NoMachine([0]), Full(8)):
            self.assertIsInstance(str(error), str)
            self.assertNotEqual(str(error), "")


def house_of(*texts):
    house = House()
    for text in texts:
        house.arrive(program(text), side="left")
    return house


class RaisedTest(unittest.TestCase):
    """Each error as it is raised by each module."""

    def check(self, error, bases, call, **attributes):
        with self.assertRaises(bases) as caught:
            call()
        self.assertIs(type(caught.exception), error)
        self.assertEqual(vars(caught.exception), attributes)
        for name, value in attributes.items():
            self.assertIs(type(getattr(caught.exception, name)), type(value))

    def test_errors_about_arguments(self):
        endless = Listing(program("collector; while a == 0; list 3; end"))
        for error, call, attributes in (
            (BadProgram, lambda: show(None), {}),
            (BadProgram, lambda: assemble(None), {}),
            (BadProgram, lambda: run(program("collector"), 0, []), {}),
            (BadProgram, lambda: Listing(program("teller")), {}),
            (BadProgram, lambda: House().arrive(None, side=None), {}),
            (BadText, lambda: read("teller\nset a 16"), {"line": 1}),
            (BadText, lambda: read("teller\nif a == 0"), {"line": 2}),
            (BadText, lambda: read(None), {"line": None}),
            (BadSide, lambda: House().arrive(program("teller"), side="up"), {}),
            (BadSide, lambda: House().members("up"), {}),
            (BadSide, lambda: House().guards("up"), {}),
            (BadSteps, lambda: run(program("teller"), 0, [], limit=-1), {}),
            (BadSteps, lambda: endless.until(-1), {}),
            (BadSteps, lambda: House().advance(-1), {}),
            (BadSteps, lambda: busiest(9), {}),
            (BadSteps, lambda: Desk().say("advance 2" + 60 * "0"), {}),
            (BadHistory, lambda: replay([("advance", 1), ("withdraw", 0)]), {"index": 1}),
            (BadHistory, lambda: replay(None), {"index": None}),
            (BadRow, lambda: Desk().say("advance -1"), {}),
        ):
            self.check(error, HouseError, call, **attributes)
            self.check(error, ValueError, call, **attributes)

    def test_the_other_errors(self):
        def busy(call):
            house = house_of("teller; answer 0")
            house.advance(watch=lambda act: call(house))

        restless, full = house_of("teller; answer 0"), house_of(*["teller"] * 8)
        for error, base, call, attributes in (
            (NoMachine, LookupError, lambda: House().withdraw(3), {"number": 3}),
            (NoMachine, LookupError, lambda: restless.facts([0]), {"number": [0]}),
            (NoMachine, LookupError, lambda: restless.acts(False), {"number": False}),
            (NoMachine, LookupError, lambda: paper_of(restless, "0"), {"number": "0"}),
            (NoMachine, LookupError, lambda: Desk().say("state 7"), {"number": 7}),
            (Full, OverflowError, lambda: full.arrive(program("teller"), side="left"), {"most": 8}),
            (TooMany, OverflowError, lambda: Listing(program("collector; while a == 0; list 3; end")).until(10 ** 9), {}),
            (Busy, RuntimeError, lambda: busy(House.undo), {}),
            (Busy, RuntimeError, lambda: busy(House.twin), {}),
            (Busy, RuntimeError, lambda: busy(House.settle), {}),
            (Unsettled, RuntimeError, lambda: paper_of(restless, 0), {}),
            (NothingDone, IndexError, lambda: House().undo(), {}),
            (NothingDone, IndexError, lambda: Desk().say("undo"), {}),
        ):
            self.check(error, base, call, **attributes)


if __name__ == "__main__":
    unittest.main()
