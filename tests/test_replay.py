"""Point 22: histories that are replayed."""

import copy
import random
import unittest

from neithertells.errors import BadHistory, HouseError, NothingDone
from neithertells.house import SIDES, House
from neithertells.notation import show
from neithertells.replay import replay
from samples import NO_INTEGERS, NO_PROGRAMS, drawn_machine, nested_list, nested_tuple, program, view

ZERO = ("arrive", "teller\nanswer 0", "left")
ONE = ("arrive", "teller\nanswer 1", "right")

# Deeds that can be done nowhere.
NO_DEEDS = (
    *NO_PROGRAMS, *NO_INTEGERS, nested_list(19), nested_tuple(19), ((),), ("",),
    # Other words.
    ("settle",), ("settle", 1), ("undo",), ("twin",), ("Advance", 1), ("ADVANCE", 1), ("advance ", 1), ("", 1), (None, 1),
    (["advance"], 1), (("advance",), 1), (True, 1), (1, "advance"), ("start", 1), ("members", "left"), ("clock",),
    # Parts too many or missing.
    ("advance",), ("advance", 1, 1), ("advance", 1, None), ("withdraw",), ("withdraw", 0, 0), ("arrive",),
    ("arrive", "teller\nanswer 0"), ("arrive", "left"), ("arrive", "teller\nanswer 0", "left", None),
    ("arrive", "teller\nanswer 0", "left", "left"), (),
    # Lists in place of tuples.
    ["advance", 1], ["withdraw", 0], ["arrive", "teller\nanswer 0", "left"], [("advance", 1)], (("advance", 1),),
    # Texts that are none.
    *[("arrive", text, "left") for text in (
        "", "teller\n", "\nteller", "teller\nanswer 2", "teller; answer 0", " teller", "Teller", "teller\nlist 0",
        "collector\nanswer 0", "teller\nif a == 0", "teller\nend", "teller\nset a 01", "x" * 4990,
        "teller" + 25 * "\nset a 0", ["teller"], ("teller", ()), ("teller", (("answer", 0),)), None, True, 0, nested_list(18),
    )],
    # Sides that are none.
    *[("arrive", "teller\nanswer 0", side) for side in (*NO_INTEGERS, 0, "Left", "left ", "middle", SIDES, nested_tuple(18))],
    ("arrive", "left", "teller\nanswer 0"),
    # Numbers of absent machines, and what is no number.
    *[("withdraw", number) for number in (*NO_INTEGERS, -1, 99, 10 ** 99, nested_list(18), "withdraw")],
    # Steps that are none.
    *[("advance", many) for many in (*NO_INTEGERS, -1, 10 ** 60 + 1, 10 ** 99, -10 ** 99, nested_list(18))],
)


def drawn_history(source, many):
    """A house and what it looked like after each of its deeds."""
    house = House()
    twins = [house.twin()]
    while len(house.history()) < many:
        choice = source.randrange(10)
        if choice < 4 and len(house) < 8:
            house.arrive(drawn_machine(source), side=source.choice(SIDES))
        elif choice == 4 and len(house) > 0:
            house.withdraw(source.choice(house.numbers()))
        elif choice == 5:
            house.settle()
        elif choice > 5:
            house.advance(source.choice((0, 0, 1, 1, 2, 5, 12, 10 ** 6, 10 ** 60)))
        if len(house.history()) == len(twins):
            twins.append(house.twin())
    return house, twins


class ReplayTest(unittest.TestCase):
    def check(self, history):
        """The replayed house keeps the history, and the list that is passed stays."""
        kept = copy.deepcopy(history)
        house = replay(history)
        self.assertIs(type(house), House)
        self.assertEqual(house.history(), kept)
        self.assertEqual(history, kept)
        return house

    def test_interface(self):
        house = self.check([ZERO, ("advance", 5)])
        self.assertEqual([house.clock(), house.members("right"), house.history()[1]], [5, [0], ("advance", 5)])
        with self.assertRaises(BadHistory) as caught:
            replay([("withdraw", 0)])
        self.assertEqual(caught.exception.index, 0)

    def test_nothing(self):
        house = self.check([])
        self.assertEqual(view(house), view(House()))
        with self.assertRaises(NothingDone):
            house.undo()

    def test_each_deed(self):
        house = self.check([ONE, ("arrive", "collector\nlist 3", "left"), ("advance", 0), ("advance", 10 ** 60), ("withdraw", 0)])
        self.assertEqual([house.numbers(), house.clock(), house.members("left")], [[1], 10 ** 60, [3]])
        self.assertEqual(house.facts(1), ("collector", program("collector; list 3"), "left", []))
        self.assertEqual(house.arrive(program("teller"), side="left"), 2)

    def test_eight_machines_at_a_time(self):
        history = [ONE] * 8
        self.assertEqual(len(self.check(history)), 8)
        history += [("withdraw", 3), ONE, ("withdraw", 8), ZERO]
        house = self.check(history)
        self.assertEqual(house.numbers(), [0, 1, 2, 4, 5, 6, 7, 9])

    def test_a_settle_that_took_no_steps(self):
        house = House()
        house.settle()
        self.assertEqual(self.check(house.history()), house)

    def test_drawn_histories(self):
        source = random.Random(22)
        deeds = set()
        for _ in range(150):
            house, twins = drawn_history(source, 25)
            again = self.check(house.history())
            self.assertEqual(again, house)
            self.assertEqual(view(again), view(house))
            deeds.update(deed if deed[0] == "advance" else deed[0] for deed in house.history())
            self.live_on(source, again, house)
            self.undo_all(again, twins)
        self.assertLessEqual({"arrive", "withdraw", ("advance", 0), ("advance", 10 ** 60)}, deeds)

    def live_on(self, source, one, other):
        """Two equal houses do the same from now on."""
        one, other = one.twin(), other.twin()
        for _ in range(3):
            if len(one) < 8:
                machine, side = drawn_machine(source), source.choice(SIDES)
                self.assertEqual(one.arrive(machine, side=side), other.arrive(machine, side=side))
            self.assertEqual(one.next_act(), other.next_act())
            self.assertEqual(one.advance(7), other.advance(7))
            number = source.choice(one.numbers())
            one.withdraw(number)
            other.withdraw(number)
            self.assertEqual(one.settle(), other.settle())
            self.assertEqual(view(one), view(other))

    def undo_all(self, house, twins):
        """Undo the deeds one by one, back to the beginning."""
        deeds = house.history()
        for twin in twins[-2::-1]:
            self.assertEqual(house.undo(), deeds.pop())
            self.assertEqual(house, twin)
            self.assertEqual(view(house), view(twin))
        with self.assertRaises(NothingDone):
            house.undo()

    def test_each_beginning_of_a_history(self):
        house, twins = drawn_history(random.Random(5), 40)
        for many, twin in enumerate(twins):
            self.assertEqual(view(self.check(house.history()[:many])), view(twin))

    def test_a_long_history(self):
        house, twins = drawn_history(random.Random(6), 200)
        self.assertEqual(view(self.check(house.history())), view(house))

    def test_a_returned_history_may_be_longer(self):
        house = House()
        for _ in range(1000):
            house.advance(3)
        self.assertEqual(view(self.check(house.history())), view(house))

    def test_histories_with_undone_deeds(self):
        house, twins = drawn_history(random.Random(7), 20)
        for _ in range(10):
            house.undo()
        house.settle()
        self.assertEqual(view(self.check(house.history())), view(house))

    def test_the_list_may_be_changed_afterwards(self):
        history = [ZERO, ("advance", 5)]
        house = replay(history)
        before = view(house)
        history.append(("withdraw", 0))
        history[0] = None
        self.assertEqual(view(house), before)
        self.assertEqual(house.undo(), ("advance", 5))
        house.history().clear()
        self.assertEqual(house.history(), [ZERO])

    def test_two_houses_of_the_same_history(self):
        history = [ZERO, ("advance", 5)]
        one, other = replay(history), replay(history)
        one.withdraw(0)
        self.assertEqual(other.numbers(), [0])
        self.assertEqual(other.history(), history)
        self.assertNotEqual(one, other)

    def test_by_name(self):
        self.assertEqual(replay(history=[ZERO]), replay([ZERO]))


class BadHistoryTest(unittest.TestCase):
    def check(self, index, history):
        kept = copy.deepcopy(history)
        with self.assertRaises(BadHistory, msg=repr(history)) as caught:
            replay(history)
        self.assertIs(type(caught.exception), BadHistory)
        self.assertIsInstance(caught.exception, HouseError)
        self.assertEqual(caught.exception.index, index, history)
        self.assertIs(type(caught.exception.index), type(index))
        self.assertEqual(history, kept)

    def test_what_is_not_a_list(self):
        for thing in (*NO_PROGRAMS, *NO_INTEGERS, 1, (ZERO,), (), ((),), "", "[]", ZERO, nested_tuple(20), ("advance", 1)):
            if not isinstance(thing, list):
                self.check(None, thing)

    def test_lists_of_other_things(self):
        for thing in (*NO_PROGRAMS, *NO_INTEGERS, nested_list(20), [None] * 2000, [[]] * 2000):
            if isinstance(thing, list) and len(thing) > 0:
                self.check(0, thing)

    def test_at_the_first_a_middle_and_the_last_index(self):
        good = [ZERO, ("advance", 5), ONE, ("advance", 0), ("withdraw", 0), ("advance", 10 ** 60)]
        for bad in NO_DEEDS:
            for index in (0, 3, 6):
                self.check(index, good[:index] + [bad] + good[index:])
            self.check(0, [bad])

    def test_the_first_one(self):
        for one in NO_DEEDS[::9]:
            for other in NO_DEEDS[::7]:
                self.check(1, [ZERO, one, other])
                self.check(2, [ZERO, ZERO, one, ("withdraw", 0), other])
        # A deed of a good form that cannot be done is as bad as one of a bad form.
        self.check(0, [("withdraw", 0), None])
        self.check(0, [None, ("withdraw", 0)])
        self.check(1, [ZERO, ("withdraw", 1), ("advance", -1)])

    def test_absent_machines(self):
        self.check(0, [("withdraw", 0), ZERO])
        self.check(1, [ZERO, ("withdraw", 1), ONE])
        self.check(2, [ZERO, ("withdraw", 0), ("withdraw", 0)])
        self.check(3, [ZERO, ("withdraw", 0), ONE, ("withdraw", 0)])
        self.check(3, [ZERO, ZERO, ZERO, ("withdraw", True)])
        self.check(3, [ZERO, ZERO, ZERO, ("withdraw", False)])

    def test_a_ninth_machine(self):
        self.check(8, [ONE] * 9)
        self.check(9, [("advance", 0)] + [ZERO] * 8 + [ONE, ("advance", 1)])
        self.check(11, [ONE] * 8 + [("withdraw", 2), ONE, ("advance", 3), ONE])

    def test_steps(self):
        self.assertEqual(replay([("advance", 10 ** 60)] * 3).clock(), 3 * 10 ** 60)
        self.check(1, [("advance", 10 ** 60), ("advance", 10 ** 60 + 1)])
        self.check(2, [("advance", 0), ("advance", 1), ("advance", True)])

    def test_texts_with_other_ends_of_lines(self):
        for text in ("teller; answer 0", "teller\n\nanswer 0", "teller\nanswer 0\n"):
            self.check(0, [("arrive", text, "left")])
        self.assertEqual(replay([("arrive", show(program("teller; answer 0")), "left")]).numbers(), [0])


if __name__ == "__main__":
    unittest.main()
