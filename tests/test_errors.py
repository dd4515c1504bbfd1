import itertools
import unittest

from neithertells.errors import BadHistory, BadProgram, BadRow, BadSide, BadSteps, BadText, Busy, Full
from neithertells.errors import HouseError, NoMachine, NothingDone, TooMany, Unsettled

FORM_ERRORS = (BadProgram, BadText, BadSide, BadSteps, BadHistory, BadRow)
OTHER_ERRORS = (NoMachine, Full, TooMany, Busy, Unsettled, NothingDone)


class ClassTest(unittest.TestCase):
    def test_direct_bases(self):
        self.assertEqual(HouseError.__bases__, (ValueError,))
        for error in FORM_ERRORS:
            self.assertTrue(issubclass(error, HouseError), error)
        self.assertTrue(issubclass(NoMachine, LookupError))
        self.assertTrue(issubclass(Full, OverflowError))
        self.assertTrue(issubclass(TooMany, OverflowError))
        self.assertTrue(issubclass(Busy, RuntimeError))
        self.assertTrue(issubclass(Unsettled, RuntimeError))
        self.assertTrue(issubclass(NothingDone, IndexError))

    def test_none_is_a_subclass_of_another_one(self):
        for one, other in itertools.permutations(FORM_ERRORS + OTHER_ERRORS, 2):
            self.assertFalse(issubclass(one, other), (one, other))

    def test_the_others_are_no_house_errors(self):
        for error in OTHER_ERRORS:
            self.assertFalse(issubclass(error, ValueError), error)
        self.assertFalse(issubclass(NoMachine, (KeyError, IndexError)))
        self.assertFalse(issubclass(Busy, NotImplementedError))
        self.assertFalse(issubclass(Unsettled, NotImplementedError))

    def test_all_stand_in_the_module_of_errors(self):
        for error in (HouseError,) + FORM_ERRORS + OTHER_ERRORS:
            self.assertEqual(error.__module__, "neithertells.errors")

    def test_those_without_attributes_take_a_message(self):
        for error in (HouseError, BadProgram, BadSide, BadSteps, BadRow, TooMany, Busy, Unsettled, NothingDone):
            self.assertEqual(str(error("why")), "why")


class AttributeTest(unittest.TestCase):
    def test_line(self):
        for line in (0, 7, None):
            self.assertEqual(BadText(line).line, line)
            self.assertEqual(BadText(line=line).line, line)

    def test_index(self):
        for index in (0, 7, None):
            self.assertEqual(BadHistory(index).index, index)
            self.assertEqual(BadHistory(index=index).index, index)

    def test_number_is_the_argument(self):
        for number in (0, -1, 10 ** 99, None, "0", "", [], [0, [1]], (0,), ((), [])):
            self.assertEqual(NoMachine(number).number, number)
            self.assertEqual(NoMachine(number=number).number, number)
        self.assertIs(NoMachine(True).number, True)
        self.assertIs(NoMachine(False).number, False)

    def test_number_is_not_kept(self):
        inner = [1]
        number = [inner, (inner,)]
        error = NoMachine(number)
        inner.append(2)
        number.append(3)
        self.assertEqual(error.number, [[1], ([1],)])

    def test_most(self):
        self.assertEqual(Full().most, 8)
        self.assertEqual(Full(8).most, 8)
        self.assertEqual(Full(most=8).most, 8)

    def test_attributes_are_those_of_the_object(self):
        one = BadText(1)
        other = BadText(2)
        self.assertEqual([one.line, other.line], [1, 2])
        one = BadHistory(1)
        other = BadHistory(2)
        self.assertEqual([one.index, other.index], [1, 2])

    def test_messages_can_be_shown(self):
        for error in (BadText(1), BadText(None), BadHistory(1), BadHistory(None), NoMachine([0]), Full(8)):
            self.assertIsInstance(str(error), str)
            self.assertNotEqual(str(error), "")


if __name__ == "__main__":
    unittest.main()
