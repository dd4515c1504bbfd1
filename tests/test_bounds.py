import unittest

from neithertells.bounds import busiest, most_acts
from neithertells.errors import BadSteps
from neithertells.house import SIDES, House
from neithertells.programs import is_program
from samples import NO_INTEGERS, nested_list, nested_tuple


class MostActsTest(unittest.TestCase):
    def test_interface(self):
        self.assertEqual(most_acts(["teller", "collector", "teller", "teller"]), [1, 1, 3, 6])

    def test_others(self):
        for kinds, expected in (
            ([], []),
            (["teller"], [1]),
            (["collector"], [1]),
            (["teller"] * 8, [1, 2, 4, 8, 16, 32, 64, 128]),
            (["collector"] * 4, [1, 1, 1, 1]),
            (["collector"] * 3 + ["teller", "collector", "teller"], [1, 1, 1, 4, 1, 9]),
        ):
            self.assertEqual(most_acts(kinds), expected)
            self.assertEqual(most_acts(kinds=kinds), expected)
        self.assertEqual(most_acts(["teller"] * 200), [2 ** at for at in range(200)])

    def test_lists_are_not_shared(self):
        kinds = ["teller", "collector"]
        first = most_acts(kinds)
        first.append(5)
        self.assertEqual((kinds, most_acts(kinds)), (["teller", "collector"], [1, 1]))


class BusiestTest(unittest.TestCase):
    def test_interface(self):
        self.assertEqual(len(busiest(3)), 3)

    def test_each_acts_as_often_as_it_may(self):
        for many in range(1, 9):
            for side, other in (SIDES, SIDES[::-1]):
                programs = busiest(many)
                self.assertIs(type(programs), list)
                self.assertEqual(programs, busiest(many=many))
                self.assertEqual([is_program(program) and program[0] for program in programs], ["teller"] * many)
                house = House()
                for program in programs:
                    house.arrive(program, side=side)
                acts = house.settle()
                self.assertEqual([len(house.acts(number)) for number in range(many)], [2 ** at for at in range(many)])
                self.assertEqual([house.rank(number) for number in range(many)], list(range(many)))
                self.assertEqual((house.clock(), acts[-1][0]), (2 ** many - 1, 2 ** many - 1))
                self.assertEqual(len(house.members(other)), 2 ** many - 1)
                self.assertEqual(most_acts(["teller"] * many), [len(house.acts(number)) for number in range(many)])

    def test_lists_are_not_shared(self):
        programs = busiest(4)
        busiest(4).clear()
        self.assertEqual(busiest(4), programs)

    def test_what_is_no_number_of_tellers(self):
        for many in (*NO_INTEGERS, 0, 9, -1, 10 ** 99, -10 ** 99, nested_list(20), nested_tuple(20)):
            with self.assertRaises(BadSteps, msg=repr(many)):
                busiest(many)


if __name__ == "__main__":
    unittest.main()
