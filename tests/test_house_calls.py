"""The calls of a house: errors and their order, watches, histories, undo, twins and equality."""

import unittest
from unittest.mock import ANY

from neithertells.errors import BadProgram, BadSide, BadSteps, Busy, Full, NoMachine, NothingDone
from neithertells.house import SIDES, House
from neithertells.notation import show
from samples import NO_INTEGERS, NO_PROGRAMS, nested_list, nested_tuple, program, view

ZERO = program("teller; answer 0")
ONE = program("teller; answer 1")
ASKS = program("teller; ask x+9 a; answer 0")
SLOW = program("teller; wait 4; answer 0")
ODD = program("collector; while a == 0; list 3; grow 2; end")

NO_SIDES = (*NO_INTEGERS, 0, 1, -1, 10 ** 99, "Left", "left ", " right", "leftright", "up", ("left",), ["left", "right"],
            SIDES, nested_list(20), nested_tuple(20))
NO_STEPS = (*NO_INTEGERS, -1, 10 ** 60 + 1, 10 ** 99, -10 ** 99, nested_list(20), nested_tuple(20))


def busy_house():
    """A house in which four machines act eight times."""
    house = House()
    house.arrive(SLOW, side="left")
    house.arrive(ODD, side="left")
    house.arrive(ASKS, side="right")
    house.arrive(ZERO, side="left")
    return house


def full_house():
    house = House()
    for _ in range(8):
        house.arrive(ONE, side="left")
    return house


class ErrorTest(unittest.TestCase):
    def check(self, error, call, *args, **named):
        """Raise this error, and change nothing."""
        house = call.__self__
        before = view(house)
        with self.assertRaises(error, msg=repr((args, named))) as caught:
            call(*args, **named)
        self.assertIs(type(caught.exception), error)
        self.assertEqual(view(house), before)
        return caught.exception

    def test_arrive(self):
        for house in (House(), busy_house(), full_house()):
            for thing in NO_PROGRAMS + (nested_list(20), nested_tuple(20)):
                for side in ("left", "up", None):
                    self.check(BadProgram, house.arrive, thing, side=side)
            for side in NO_SIDES:
                self.check(BadSide, house.arrive, ZERO, side=side)
                self.check(BadSide, house.arrive, ODD, side=side)
        self.assertEqual(self.check(Full, full_house().arrive, ZERO, side="right").most, 8)

    def test_what_is_not_the_number_of_a_machine_present(self):
        house = busy_house()
        house.withdraw(0)
        for number in (*NO_INTEGERS, 0, 4, -1, 10 ** 99, nested_list(20), nested_tuple(20)):
            for call in (house.withdraw, house.rank, house.is_satisfied, house.starts, house.acts, house.facts):
                error = self.check(NoMachine, call, number)
                self.assertEqual(error.number, number)
                self.assertIs(type(error.number), type(number))
        for number in (True, False, 0, 1):
            self.check(NoMachine, House().withdraw, number)

    def test_true_is_not_1(self):
        house = busy_house()
        for number in (True, False):
            for call in (house.withdraw, house.rank, house.is_satisfied, house.starts, house.acts, house.facts):
                self.assertIs(self.check(NoMachine, call, number).number, number)

    def test_steps(self):
        for house in (House(), busy_house()):
            for many in NO_STEPS:
                self.check(BadSteps, house.advance, many)
                self.check(BadSteps, house.advance, many, watch=self.fail)

    def test_sides(self):
        for house in (House(), busy_house()):
            for side in NO_SIDES:
                self.check(BadSide, house.members, side)
                self.check(BadSide, house.guards, side)

    def test_undo(self):
        self.check(NothingDone, House().undo)

    def test_names_only(self):
        house = busy_house()
        for call, args in ((house.arrive, (ZERO, "left")), (house.advance, (1, None)), (house.settle, (None,))):
            self.check(TypeError, call, *args)
        self.check(TypeError, house.arrive, ZERO)

    def test_by_position_and_by_name(self):
        one, other = House(), House()
        self.assertEqual(one.arrive(ASKS, side="left"), other.arrive(program=ASKS, side="left"))
        self.assertEqual(one.arrive(ZERO, side="left"), other.arrive(side="left", program=ZERO))
        self.assertEqual(one.advance(3), other.advance(many=3))
        self.assertEqual(one.advance(3, watch=None), other.advance(watch=None, many=3))
        self.assertEqual(one.settle(), other.settle(watch=None))
        for name in ("rank", "is_satisfied", "starts", "acts", "facts"):
            self.assertEqual(getattr(one, name)(1), getattr(other, name)(number=1))
        for name in ("members", "guards"):
            self.assertEqual(getattr(one, name)("left"), getattr(other, name)(side="left"))
        self.assertEqual(one.withdraw(0), other.withdraw(number=0))
        self.assertEqual(view(one), view(other))


class WatchTest(unittest.TestCase):
    def test_called_with_each_act(self):
        acts = busy_house().settle()
        self.assertEqual(len(acts), 8)
        for call in (lambda house, watch: house.settle(watch=watch), lambda house, watch: house.advance(90, watch=watch)):
            house = busy_house()
            seen = []
            self.assertEqual(call(house, seen.append), acts)
            self.assertEqual(seen, acts)
        seen = []
        self.assertEqual(busy_house().advance(2, watch=seen.append), acts[:2])
        self.assertEqual(seen, acts[:2])

    def test_not_called_without_acts(self):
        house = busy_house()
        house.settle()
        self.assertEqual(house.settle(watch=self.fail), [])
        self.assertEqual(house.advance(5, watch=self.fail), [])
        self.assertEqual(house.advance(0, watch=self.fail), [])
        self.assertEqual(House().advance(watch=self.fail), [])

    def test_its_result_is_ignored(self):
        house = busy_house()
        self.assertEqual(house.settle(watch=lambda act: "stop"), busy_house().settle())
        self.assertEqual(view(house)[2][-1][0], "advance")

    def test_the_house_as_it_stands_then(self):
        for name in ("settle", "advance"):
            house, other = busy_house(), busy_house()
            before = house.history()
            views = []

            def watch(act):
                views.append(view(house))
                # The other house is led to the same act, and its history is the only difference.
                self.assertEqual(other.advance(act[0] - other.clock()), [act])
                self.assertEqual(house, other)
                self.assertEqual(house.history(), before)
                self.assertEqual(view(house)[3:], view(other)[3:])
                self.assertEqual(house.clock(), act[0])
                self.assertEqual(house.acts(act[1])[-1], (act[0], act[2]))

            acts = house.settle(watch=watch) if name == "settle" else house.advance(40, watch=watch)
            self.assertEqual([seen[0] for seen in views], [act[0] for act in acts])
            self.assertEqual(house.history(), before + [("advance", 40 if name == "advance" else acts[-1][0])])

    def test_busy(self):
        house = busy_house()
        before = busy_house()
        calls = []

        def watch(act):
            seen = view(house)
            for call in (
                lambda: house.arrive(ZERO, side="left"), lambda: house.withdraw(0), lambda: house.advance(),
                lambda: house.advance(0), lambda: house.advance(10 ** 60, watch=self.fail), lambda: house.settle(),
                lambda: house.settle(watch=self.fail), lambda: house.undo(), lambda: house.twin(),
            ):
                with self.assertRaises(Busy):
                    call()
            self.assertEqual(view(house), seen)
            calls.append(act)

        self.assertEqual(house.settle(watch=watch), before.settle())
        self.assertEqual(len(calls), 8)
        self.assertEqual(view(house), view(before))
        self.assertEqual(house.arrive(ONE, side="left"), 4)
        self.assertEqual(house.twin(), house)
        house.withdraw(4)
        self.assertEqual(house.advance(1), [])
        self.assertEqual(house.undo(), ("advance", 1))

    def test_errors_that_come_before_and_after_busy(self):
        house = full_house()
        house.withdraw(7)
        house.arrive(ZERO, side="left")
        done = []

        def watch(act):
            for error, call in (
                (BadProgram, lambda: house.arrive("x", side="up")), (BadSide, lambda: house.arrive(ONE, side="up")),
                (Busy, lambda: house.arrive(ONE, side="left")), (NoMachine, lambda: house.withdraw(99)),
                (NoMachine, lambda: house.withdraw(True)), (Busy, lambda: house.withdraw(0)),
                (BadSteps, lambda: house.advance(-1)), (BadSteps, lambda: house.advance(True)),
                (Busy, lambda: house.advance(1)), (Busy, lambda: house.undo()),
            ):
                with self.assertRaises(error):
                    call()
            done.append(act)

        self.assertEqual(house.settle(watch=watch), done)
        self.assertEqual(done, [(1, 8, 8)])

    def test_calls_that_are_not_busy(self):
        house = busy_house()
        other = House()

        def watch(act):
            self.assertEqual(len(house), 4)
            self.assertTrue(house == house)
            house.next_act()
            other.arrive(ZERO, side="left")
            other.settle()
            other.withdraw(other.numbers()[0])

        house.settle(watch=watch)
        self.assertEqual((other.members("right"), other.numbers(), other.clock()), (list(range(8)), [], 8))

    def test_a_watch_that_raises(self):
        acts = busy_house().settle()
        for at in range(len(acts)):
            for many in (None, 40):
                house = busy_house()
                house.advance(0)
                before = view(house)
                error = KeyError(at)

                def watch(act):
                    if act == acts[at]:
                        raise error

                with self.assertRaises(KeyError) as caught:
                    house.settle(watch=watch) if many is None else house.advance(many, watch=watch)
                self.assertIs(caught.exception, error)
                self.assertEqual(view(house), before)
                self.assertEqual(house.settle(), acts)
                self.assertEqual([house.undo(), house.undo()], [("advance", acts[-1][0]), ("advance", 0)])
                self.assertEqual(view(house), view(busy_house()))

    def test_a_watch_that_leaves_busy_alone(self):
        house = busy_house()
        before = view(house)
        for call in (house.advance, house.settle, house.undo, house.twin):
            with self.assertRaises(Busy):
                house.settle(watch=lambda act: call())
            self.assertEqual(view(house), before)
        for stop in (KeyboardInterrupt, GeneratorExit, StopIteration):
            def watch(act):
                raise stop

            with self.assertRaises(stop):
                house.advance(9, watch=watch)
            self.assertEqual(view(house), before)
        self.assertEqual(house.settle(), busy_house().settle())


class OwnListsTest(unittest.TestCase):
    def test_what_is_returned_may_be_changed(self):
        house = busy_house()
        acts = house.settle()
        copy = list(acts)
        before = view(house)
        for call in (
            house.numbers, house.history, lambda: house.members("left"), lambda: house.members("right"),
            lambda: house.guards("left"), lambda: house.guards("right"), lambda: house.starts(2), lambda: house.acts(2),
            lambda: house.facts(1)[3], lambda: acts,
        ):
            rows = call()
            self.assertIs(type(rows), list)
            rows.append("more")
            rows.reverse()
            self.assertEqual(view(house), before)
        acts.clear()
        house.undo()
        self.assertEqual(house.settle(), copy)
        self.assertEqual(view(house), before)

    def test_what_a_house_returned_stays(self):
        house = busy_house()
        early = view(house)
        copy = repr(early)
        house.settle()
        house.withdraw(1)
        house.arrive(ONE, side="left")
        self.assertEqual(repr(early), copy)

    def test_kinds_of_values(self):
        house = busy_house()
        for act in house.settle():
            self.assertIs(type(act), tuple)
        for rows in (house.history(), house.starts(2), house.acts(2), house.guards("right")):
            self.assertTrue(rows)
            for row in rows:
                self.assertIs(type(row), tuple)
        self.assertIs(type(house.facts(0)), tuple)
        self.assertIs(type(house.facts(1)), tuple)


class HistoryTest(unittest.TestCase):
    def test_each_kind_of_deed(self):
        house = House()
        expected = []
        house.arrive(SLOW, side="left")
        expected.append(("arrive", "teller\nwait 4\nanswer 0", "left"))
        house.arrive(ODD, side="right")
        expected.append(("arrive", show(ODD), "right"))
        self.assertEqual(house.history(), expected)
        house.advance(0)
        house.advance()
        house.advance(3)
        expected += [("advance", 0), ("advance", 1), ("advance", 3)]
        self.assertEqual(house.history(), expected)
        house.settle()
        house.settle()
        expected += [("advance", 1), ("advance", 0)]
        self.assertEqual(house.history(), expected)
        house.withdraw(0)
        house.advance(10 ** 60)
        expected += [("withdraw", 0), ("advance", 10 ** 60)]
        self.assertEqual(house.history(), expected)

    def test_calls_that_raise_are_not_kept(self):
        house = full_house()
        before = house.history()
        for error, call in (
            (BadProgram, lambda: house.arrive("x", side="left")), (BadSide, lambda: house.arrive(ONE, side="x")),
            (Full, lambda: house.arrive(ONE, side="left")), (NoMachine, lambda: house.withdraw(8)),
            (BadSteps, lambda: house.advance(-1)),
        ):
            with self.assertRaises(error):
                call()
            self.assertEqual(house.history(), before)

    def test_calls_that_only_tell_are_not_kept(self):
        house = busy_house()
        before = house.history()
        view(house)
        house.twin()
        self.assertEqual(house.history(), before)


class UndoTest(unittest.TestCase):
    def test_back_to_the_beginning(self):
        house = House()
        views = []
        twins = []
        for deed in (
            lambda: house.arrive(SLOW, side="left"), lambda: house.arrive(ODD, side="left"), lambda: house.advance(0),
            lambda: house.arrive(ASKS, side="right"), lambda: house.advance(1), lambda: house.advance(2),
            lambda: house.withdraw(1), lambda: house.settle(), lambda: house.settle(),
            lambda: house.arrive(ZERO, side="right"), lambda: house.arrive(ONE, side="left"), lambda: house.advance(50),
            lambda: house.withdraw(0), lambda: house.withdraw(4), lambda: house.advance(10 ** 60),
        ):
            views.append(view(house))
            twins.append(house.twin())
            deed()
        deeds = house.history()
        while views:
            self.assertEqual(house.undo(), deeds.pop())
            self.assertEqual(view(house), views.pop())
            self.assertEqual(house, twins.pop())
            self.assertEqual(house.history(), deeds)
        with self.assertRaises(NothingDone):
            house.undo()
        self.assertEqual(house, House())

    def test_deeds_after_an_undo(self):
        house = busy_house()
        acts = house.settle()
        after = view(house)
        for _ in range(3):
            house.undo()
            self.assertEqual(house.settle(), acts)
            self.assertEqual(view(house), after)
        house.undo()
        house.undo()
        # The number of the arrival that was taken back is given again.
        self.assertEqual(house.arrive(ZERO, side="left"), 3)
        self.assertEqual(house.settle(), acts)
        self.assertEqual(view(house), after)

    def test_undo_is_no_deed(self):
        house = busy_house()
        before = house.history()
        house.advance(3)
        self.assertEqual(house.undo(), ("advance", 3))
        self.assertEqual(house.history(), before)

    def test_undo_of_a_settle(self):
        house = busy_house()
        acts = house.settle()
        self.assertEqual(house.undo(), ("advance", acts[-1][0]))
        self.assertEqual(house.clock(), 0)


class TwinTest(unittest.TestCase):
    def test_equal_with_the_same_history(self):
        house = busy_house()
        for deed in (lambda: house.advance(3), lambda: house.withdraw(1), lambda: house.settle()):
            deed()
            other = house.twin()
            self.assertIs(type(other), House)
            self.assertEqual(house, other)
            self.assertEqual(view(house), view(other))
        self.assertEqual(view(House().twin()), view(House()))

    def test_deeds_on_one_leave_the_other(self):
        deeds = (
            lambda house: house.arrive(ZERO, side="left"), lambda house: house.withdraw(0),
            lambda house: house.advance(1), lambda house: house.advance(7), lambda house: house.settle(),
            lambda house: house.undo(),
        )
        for deed in deeds:
            house = busy_house()
            house.advance(2)
            other = house.twin()
            before = view(house)
            deed(other)
            self.assertEqual(view(house), before)
            changed = view(other)
            deed(house)
            self.assertEqual(view(other), changed)
            self.assertEqual(view(house), changed)

    def test_a_twin_can_be_undone_by_itself(self):
        house = busy_house()
        house.settle()
        other = house.twin()
        before = view(house)
        while other.history():
            other.undo()
        self.assertEqual(other, House())
        self.assertEqual(view(house), before)


class EqualityTest(unittest.TestCase):
    def same(self, one, other):
        self.assertTrue(one == other)
        self.assertTrue(other == one)
        self.assertFalse(one != other)

    def differ(self, one, other):
        self.assertFalse(one == other)
        self.assertFalse(other == one)
        self.assertTrue(one != other)

    def test_equal(self):
        self.same(House(), House())
        self.same(busy_house(), busy_house())
        house = busy_house()
        self.same(house, house)

    def test_histories_are_not_compared(self):
        one, other = busy_house(), busy_house()
        one.settle()
        other.advance(2)
        other.advance(0)
        other.settle()
        self.assertNotEqual(one.history(), other.history())
        self.same(one, other)

    def test_withdrawn_machines_are_not_compared(self):
        one, other = House(), House()
        one.arrive(ONE, side="left")
        other.arrive(program("teller; while a == 0; end"), side="right")
        self.differ(one, other)
        one.withdraw(0)
        other.withdraw(0)
        self.same(one, other)

    def test_clock(self):
        one, other = House(), House()
        one.advance(1)
        self.differ(one, other)
        other.advance(1)
        self.same(one, other)

    def test_sets(self):
        # After the withdrawals, only the sets differ: the greatest members and the clocks are the same.
        def house_after(*rows):
            house = House()
            for text, side in rows:
                house.arrive(program(text), side=side)
            house.advance(9)
            for number in house.numbers():
                house.withdraw(number)
            return house

        one = house_after(("collector; list 5", "left"), ("collector; list 9", "left"))
        self.same(one, house_after(("collector; list 9", "left"), ("collector; list 5", "left")))
        self.differ(one, house_after(("collector; list 4", "left"), ("collector; list 9", "left")))
        self.differ(one, house_after(("collector; list 5", "right"), ("collector; list 9", "left")))
        self.differ(one, house_after(("collector; list 5", "left"), ("collector; list 9", "right")))
        self.differ(house_after(("collector; list 5", "left")), house_after(("collector; list 5", "right")))
        one = house_after(("collector; list 5", "right"), ("collector; list 9", "left"))
        self.differ(one, house_after(("collector; list 4", "right"), ("collector; list 9", "left")))

    def test_the_next_number(self):
        one, other = House(), House()
        one.arrive(ODD, side="left")
        one.withdraw(0)
        self.assertEqual((one.members("left"), one.numbers()), ([], []))
        self.differ(one, other)

    def test_the_next_position(self):
        one, other = House(), House()
        for house, machine in ((one, ONE), (other, ODD)):
            house.arrive(machine, side="left")
            house.withdraw(0)
        self.differ(one, other)

    def test_numbers(self):
        # The machine that is left has the rank 0 in both houses, and the next number is the same.
        one, other = House(), House()
        one.arrive(ODD, side="left")
        one.arrive(ODD, side="left")
        one.withdraw(1)
        other.arrive(ODD, side="left")
        other.withdraw(0)
        other.arrive(ODD, side="left")
        self.assertEqual((one.numbers(), other.numbers(), one.rank(0), other.rank(1)), ([0], [1], 0, 0))
        self.differ(one, other)

    def test_programs_and_sides(self):
        for one, other in (
            ((ONE, "left"), (program("teller; wait 1; answer 1"), "left")),
            ((ODD, "left"), (ODD, "right")),
            ((program("collector; list 1"), "left"), (program("collector; list 1; list 2"), "left")),
        ):
            houses = House(), House()
            for house, (machine, side) in zip(houses, (one, other)):
                house.arrive(machine, side=side)
            self.differ(*houses)

    def test_ranks(self):
        # The machine with the number 1 arrives beside another one, or after it has left.
        one, other = House(), House()
        for house in (one, other):
            house.arrive(ODD, side="left")
        one.withdraw(0)
        one.arrive(ODD, side="left")
        other.arrive(ODD, side="left")
        other.withdraw(0)
        self.assertEqual((one.rank(1), other.rank(1)), (0, 1))
        self.differ(one, other)

    def test_positions(self):
        # The tellers have the same number and the same next position, but not the same position.
        one, other = House(), House()
        one.arrive(ONE, side="left")
        one.withdraw(0)
        one.arrive(ONE, side="left")
        one.arrive(ODD, side="left")
        other.arrive(ODD, side="left")
        other.withdraw(0)
        other.arrive(ONE, side="left")
        other.arrive(ONE, side="left")
        self.assertEqual((one.facts(1)[3], other.facts(1)[3]), (1, 0))
        one.withdraw(2)
        other.withdraw(2)
        self.assertEqual((one.rank(1), one.starts(1)), (other.rank(1), other.starts(1)))
        self.differ(one, other)

    def test_starts(self):
        one, other = House(), House()
        for house, before in ((one, 0), (other, 1)):
            house.advance(before)
            house.arrive(ONE, side="left")
            house.advance(1 - before)
        self.assertEqual((one.starts(0), other.starts(0)), ([(0, None)], [(1, None)]))
        self.differ(one, other)

    def test_acts(self):
        # In one house the collector has added 3 itself, in the other one a machine that is withdrawn has.
        def house_after(first, text):
            house = House()
            house.arrive(program(first), side="left")
            house.arrive(program("collector; wait 1; list 3"), side="left")
            house.arrive(program(text), side="left")
            house.advance(5)
            house.withdraw(0)
            house.withdraw(2)
            return house

        one = house_after("collector; wait 9; list 4", "collector; wait 3; list 3")
        other = house_after("collector; wait 9; list 4", "collector; list 3")
        self.assertEqual((one.members("left"), other.members("left")), ([3], [3]))
        self.assertEqual((one.acts(1), other.acts(1)), ([(2, 3)], []))
        self.assertEqual((one.is_satisfied(1), other.is_satisfied(1)), (True, True))
        self.differ(one, other)

    def test_guards_and_who_is_satisfied(self):
        # These follow from the starts and the acts, so they never differ alone.
        houses = House(), House()
        for house, text in zip(houses, ("collector; wait 1; list 9", "collector; wait 9; list 9")):
            house.arrive(program(text), side="left")
            house.arrive(program("teller; ask x+3 a; answer 0"), side="right")
            house.advance(2)
            house.withdraw(0)
        one, other = houses
        self.assertEqual((one.guards("right"), other.guards("right")), ([], [(3, 1)]))
        self.assertEqual((one.is_satisfied(1), other.is_satisfied(1)), (False, True))
        self.differ(one, other)

    def test_beside_other_things(self):
        for house in (House(), busy_house()):
            for thing in (None, True, False, 0, "", "House", [], (), {}, view(house), repr(house), object(), ANY):
                self.assertFalse(house == thing)
                self.assertTrue(house != thing)

    def test_the_houses_stay_as_they_are(self):
        one, other = busy_house(), busy_house()
        before = view(one)
        self.same(one, other)
        self.assertEqual((view(one), view(other)), (before, before))


class TextTest(unittest.TestCase):
    def test_len_and_repr(self):
        house = House()
        self.assertEqual((len(house), bool(house), repr(house)), (0, False, "House(clock=0, machines=0)"))
        for many in range(1, 9):
            house.arrive(ONE, side="left")
            self.assertEqual((len(house), bool(house)), (many, True))
        house.advance(7)
        for number in range(5):
            house.withdraw(number)
        self.assertEqual((len(house), repr(house), str(house)), (3, *["House(clock=7, machines=3)"] * 2))
        house.advance(10 ** 60)
        self.assertEqual(repr(house), f"House(clock={10 ** 60 + 7}, machines=3)")


if __name__ == "__main__":
    unittest.main()
