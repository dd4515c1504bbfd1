"""What happens in a house: arrivals, positions, guards, acts, starts, withdrawals and steps."""

import unittest

from neithertells.errors import Full, NoMachine
from neithertells.house import MOST_MACHINES, SIDES, House
from neithertells.notation import read
from samples import program

FAR = 10 ** 30
ZERO = program("teller; answer 0")
ONE = program("teller; answer 1")
ENDS = program("teller; ask 1 a")
SILENT = program("teller; while a == 0; ask x+1 b; end")
ASKS = program("teller; ask x+9 a; answer 0")
SLOW = program("teller; wait 4; answer 0")
ODD = program("collector; while a == 0; list 3; grow 2; end")
FORTY = program("collector; grow 15; grow 15; list 10")


def house_of(*rows):
    """A house with the machines of (side, text or program) in this order."""
    house = House()
    for side, text in rows:
        house.arrive(program(text) if isinstance(text, str) else text, side=side)
    return house


def position(house, number):
    return house.facts(number)[3]


class ExampleTest(unittest.TestCase):
    def test_interface(self):
        house = House()
        teller = read("teller\nask 0 a\nif a == 1\nanswer 1\nelse\nanswer 0\nend")
        self.assertEqual(house.arrive(teller, side="left"), 0)
        self.assertEqual(house.arrive(read("teller\nanswer 0"), side="right"), 1)
        self.assertEqual(house.arrive(read("collector\nwhile a == 0\nlist 3\ngrow 2\nend"), side="left"), 2)
        self.assertEqual(house.advance(), [(1, 1, 1)])
        self.assertEqual(house.settle(), [(2, 2, 3), (3, 0, 0), (4, 1, 4)])
        self.assertEqual(
            [house.clock(), house.members("left"), house.members("right"), house.guards("left")],
            [4, [1, 3, 4], [0], [(0, 0)]],
        )
        self.assertEqual(
            [house.starts(1), house.acts(1), house.rank(1), house.next_act()],
            [[(0, None), (3, 0)], [(1, 1), (4, 4)], 1, None],
        )

    def test_constants(self):
        self.assertEqual((SIDES, MOST_MACHINES), (("left", "right"), 8))

    def test_a_new_house(self):
        house = House()
        self.assertEqual([house.clock(), house.numbers(), house.history(), house.next_act()], [0, [], [], None])
        for side in SIDES:
            self.assertEqual([house.members(side), house.guards(side)], [[], []])


class ArrivalTest(unittest.TestCase):
    def test_numbers_ranks_and_starts(self):
        house = House()
        for number, machine in enumerate((ZERO, ODD, ONE, FORTY)):
            self.assertEqual(house.arrive(machine, side=SIDES[number % 2]), number)
            self.assertEqual(house.rank(number), number)
            self.assertEqual(house.starts(number), [(0, None)])
            self.assertEqual(house.acts(number), [])
            self.assertIs(house.is_satisfied(number), False)
        self.assertEqual(house.numbers(), [0, 1, 2, 3])

    def test_a_late_arrival(self):
        house = House()
        house.advance(7)
        for number, machine in enumerate((SLOW, ODD)):
            house.arrive(machine, side="left")
            self.assertEqual(house.starts(number), [(7, None)])
        self.assertEqual(house.settle(), [(9, 1, 3), (12, 0, 0)])

    def test_a_machine_may_act_in_the_next_step(self):
        for clock in (0, 5):
            house = House()
            house.advance(clock)
            house.arrive(ZERO, side="left")
            self.assertEqual(house.advance(), [(clock + 1, 0, 0)])
            house = House()
            house.advance(clock)
            house.arrive(program("collector; list 6"), side="left")
            self.assertEqual(house.advance(), [(clock + 1, 0, 6)])

    def test_numbers_and_ranks_after_withdrawals(self):
        house = house_of(("left", ONE), ("left", ONE), ("left", ONE))
        house.withdraw(0)
        self.assertEqual(house.arrive(ONE, side="right"), 3)
        self.assertEqual([house.rank(number) for number in house.numbers()], [1, 2, 2])
        for number in (1, 2, 3):
            house.withdraw(number)
        self.assertEqual(house.arrive(ODD, side="right"), 4)
        self.assertEqual((house.rank(4), house.numbers()), (0, [4]))

    def test_a_ninth_machine(self):
        house = house_of(*[(SIDES[at % 2], (ONE, ODD)[at // 4]) for at in range(8)])
        before = house.twin()
        for machine in (ONE, ODD):
            with self.assertRaises(Full) as caught:
                house.arrive(machine, side="left")
            self.assertEqual(caught.exception.most, 8)
        self.assertEqual((house, house.history()), (before, before.history()))
        house.withdraw(3)
        self.assertEqual(house.arrive(ONE, side="left"), 8)
        self.assertEqual((house.rank(8), len(house)), (7, 8))
        with self.assertRaises(Full):
            house.arrive(ONE, side="left")

    def test_facts(self):
        house = house_of(("right", ONE), ("left", SILENT), ("left", ODD), ("right", FORTY))
        self.assertEqual(house.facts(0), ("teller", ONE, "right", 0))
        self.assertEqual(house.facts(1), ("teller", SILENT, "left", 1))
        self.assertEqual(house.facts(2), ("collector", ODD, "left", [0]))
        self.assertEqual(house.facts(3), ("collector", FORTY, "right", [1]))


class PositionTest(unittest.TestCase):
    def test_after_positions(self):
        house = house_of(("left", ONE), ("right", ODD), ("right", ONE), ("left", SILENT))
        self.assertEqual([position(house, number) for number in (0, 2, 3)], [0, 1, 2])

    def test_after_positions_of_withdrawn_tellers(self):
        house = house_of(("left", ONE), ("right", ONE))
        house.withdraw(1)
        house.withdraw(0)
        house.arrive(ONE, side="left")
        self.assertEqual(position(house, 2), 2)

    def test_after_members(self):
        for side in SIDES:
            house = house_of((side, FORTY))
            house.advance(3)
            self.assertEqual(house.members(side), [40])
            house.arrive(ONE, side="left")
            self.assertEqual(position(house, 1), 41)
            house.withdraw(0)
            house.arrive(ONE, side="right")
            self.assertEqual(position(house, 2), 42)

    def test_listed_integers_do_not_count(self):
        # The waiting teller guards the 5 that the collector lists, so it is listed and does not become a member.
        house = house_of(*[("right", ONE)] * 6, ("left", "collector; list 5; wait 9; list 5"))
        house.advance(20)
        self.assertEqual(house.members("left"), [])
        house.arrive(ONE, side="left")
        self.assertEqual(position(house, 7), 6)

    def test_after_guarded_integers(self):
        house = house_of(("left", ASKS), ("left", ONE))
        self.assertEqual(position(house, 1), 1)
        house.advance(2)
        self.assertEqual(house.guards("left"), [(9, 0)])
        self.assertEqual(position(house, 1), 10)
        house.withdraw(1)
        house.withdraw(0)
        house.arrive(ONE, side="right")
        self.assertEqual(position(house, 2), 11)

    def test_after_integers_that_were_guarded_once(self):
        house = house_of(("left", "teller; wait 3; answer 0"), ("left", ASKS))
        self.assertEqual(house.advance(2), [(2, 1, 1)])
        self.assertEqual(house.guards("left"), [(10, 1)])
        self.assertEqual(house.advance(2), [(4, 0, 0)])
        # Teller 1 waits again, and nobody guards 10 any more.
        self.assertEqual((house.guards("left"), house.guards("right")), ([], [(11, 1)]))
        self.assertEqual(position(house, 1), 11)

    def test_runs_that_were_not_guarded_do_not_count(self):
        house = house_of(("left", "teller; ask x+9 a; answer 1"), ("left", "teller; ask x+15 a; wait 9; answer 0"))
        house.advance(5)
        house.arrive(ONE, side="left")
        self.assertEqual(position(house, 2), 2)

    def test_started_in_the_order_of_arrival(self):
        house = house_of(("left", SLOW), ("right", ONE), ("left", ODD), ("left", ONE), ("right", ONE))
        self.assertEqual([position(house, number) for number in (1, 3, 4)], [1, 2, 3])
        self.assertEqual(house.advance(2), [(2, 2, 3)])
        self.assertEqual([position(house, number) for number in (1, 3, 4)], [1, 4, 5])
        self.assertEqual(house.advance(3), [(5, 0, 0)])
        self.assertEqual([position(house, number) for number in (0, 1, 3, 4)], [0, 6, 7, 8])


class GuardTest(unittest.TestCase):
    def test_waiting_tellers(self):
        house = house_of(("left", ONE), ("right", ENDS), ("left", SILENT), ("left", SLOW))
        self.assertEqual(house.guards("right"), [(0, 0), (2, 2), (3, 3)])
        self.assertEqual(house.guards("left"), [(1, 1)])

    def test_satisfied_tellers(self):
        house = house_of(("left", "teller; ask x+9 a; ask 3 a; ask x-2 a; ask 3 b; answer 0"))
        self.assertEqual((house.guards("left"), house.guards("right")), ([], [(0, 0)]))
        house.settle()
        self.assertEqual((house.guards("left"), house.guards("right")), ([(3, 0), (9, 0)], []))
        self.assertEqual((house.members("left"), house.members("right")), ([], [0]))

    def test_satisfied_tellers_that_ask_nothing(self):
        house = house_of(("left", ZERO))
        house.settle()
        self.assertEqual((house.guards("left"), house.guards("right")), ([], []))

    def test_several_guard_the_same(self):
        house = house_of(("left", "teller; ask 12 a; ask 3 a; answer 0"), ("left", "teller; ask 12 a; answer 0"))
        house.settle()
        self.assertEqual(house.guards("left"), [(3, 0), (12, 0), (12, 1)])

    def test_collectors_guard_nothing(self):
        house = house_of(("left", ODD), ("right", FORTY))
        house.settle()
        self.assertEqual((house.guards("left"), house.guards("right")), ([], []))

    def test_withdrawn_tellers_guard_nothing(self):
        house = house_of(("left", "teller; ask 3 a; answer 0"), ("left", ONE))
        house.settle()
        self.assertEqual((house.guards("left"), house.guards("right")), ([(3, 0)], [(4, 1)]))
        house.withdraw(1)
        self.assertEqual((house.guards("left"), house.guards("right")), ([(3, 0)], []))
        house.withdraw(0)
        self.assertEqual((house.guards("left"), house.guards("right")), ([], []))


class TellerTest(unittest.TestCase):
    def test_answers_0(self):
        for side, other in (SIDES, SIDES[::-1]):
            house = house_of((side, SLOW))
            self.assertEqual(house.advance(4), [])
            self.assertIs(house.is_satisfied(0), False)
            self.assertEqual(house.advance(), [(5, 0, 0)])
            self.assertIs(house.is_satisfied(0), True)
            self.assertEqual((house.members(side), house.members(other)), ([], [0]))
            self.assertEqual((house.acts(0), house.starts(0)), ([(5, 0)], [(0, None)]))
            self.assertEqual(house.advance(100), [])

    def test_others_never_act(self):
        for machine in (ONE, ENDS, SILENT, ("teller", ())):
            house = house_of(("left", machine))
            self.assertIsNone(house.next_act())
            self.assertEqual(house.advance(10 ** 60), [])
            self.assertIs(house.is_satisfied(0), False)
            self.assertEqual((house.acts(0), house.starts(0), house.guards("right")), ([], [(0, None)], [(0, 0)]))

    def test_the_run_is_that_on_the_members_of_now(self):
        # The teller answers 1 until 5 is a member, and its age is then greater than the length.
        text = "teller; ask 5 a; if a == 1; answer 0; end; answer 1"
        house = house_of(("left", text), ("left", "collector; wait 9; list 5"))
        self.assertEqual(house.settle(), [(10, 1, 5), (11, 0, 0)])
        house = house_of(("left", text), ("right", "collector; wait 9; list 5"))
        self.assertEqual(house.settle(), [(10, 1, 5)])

    def test_a_run_that_becomes_longer(self):
        text = "teller; ask 5 a; if a == 1; wait 20; answer 0; end; wait 12; answer 0"
        house = house_of(("left", text), ("left", "collector; wait 9; list 5"))
        self.assertEqual(house.next_act(), (10, 1, 5))
        self.assertEqual(house.settle(), [(10, 1, 5), (23, 0, 0)])
        house = house_of(("left", text))
        self.assertEqual(house.settle(), [(15, 0, 0)])

    def test_a_run_that_answers_1_from_then_on(self):
        text = "teller; ask 5 a; if a == 1; answer 1; end; wait 12; answer 0"
        house = house_of(("left", text), ("left", "collector; wait 9; list 5"))
        self.assertEqual(house.settle(), [(10, 1, 5)])

    def test_a_run_that_was_silent(self):
        text = "teller; ask x+5 a; while a == 0; ask x+5 a; end; answer 0"
        house = house_of(("left", text), ("left", "collector; wait 9; list 5"))
        self.assertEqual(house.settle(), [(10, 1, 5), (11, 0, 0)])
        self.assertEqual(house.guards("left"), [(5, 0)])

    def test_the_run_of_a_satisfied_teller_stays(self):
        text = "teller; ask 5 a; if a == 1; answer 1; end; answer 0"
        house = house_of(("left", text), ("left", "collector; wait 9; list 5; list 6; list 5"))
        self.assertEqual(house.settle(), [(3, 0, 0), (11, 1, 6)])
        self.assertEqual(house.members("left"), [6])


class CollectorTest(unittest.TestCase):
    def test_acts_once(self):
        house = house_of(("left", ODD))
        self.assertEqual(house.advance(), [])
        self.assertIs(house.is_satisfied(0), False)
        self.assertEqual(house.advance(50), [(2, 0, 3)])
        self.assertIs(house.is_satisfied(0), True)
        self.assertEqual((house.members("left"), house.members("right")), ([3], []))
        self.assertEqual((house.acts(0), house.starts(0)), ([(2, 3)], [(0, None)]))

    def test_has_listed_a_member_that_it_did_not_add(self):
        house = house_of(("left", "collector; list 5"))
        house.advance()
        house.arrive(program("collector; wait 3; list 5; list 6"), side="left")
        self.assertIsNone(house.next_act())
        house.advance(3)
        self.assertIs(house.is_satisfied(1), False)
        self.assertEqual(house.advance(), [])
        self.assertIs(house.is_satisfied(1), True)
        self.assertEqual(house.advance(9), [])
        self.assertEqual(house.acts(1), [])

    def test_members_of_the_other_set_do_not_satisfy(self):
        house = house_of(("right", "collector; list 5"), ("left", "collector; list 5"))
        self.assertEqual(house.settle(), [(1, 0, 5), (2, 1, 5)])

    def test_lists_a_member_later(self):
        house = house_of(("left", "collector; list 5"), ("left", "collector; wait 2; list 4; list 5"))
        self.assertEqual(house.settle(), [(1, 0, 5), (3, 1, 4)])

    def test_becomes_satisfied_by_an_act_of_another_one(self):
        house = house_of(("left", "collector; list 7"), ("left", "collector; list 7"))
        self.assertEqual(house.advance(), [(1, 0, 7)])
        self.assertIs(house.is_satisfied(1), True)
        self.assertEqual(house.settle(), [])

    def test_guards_of_satisfied_tellers(self):
        house = house_of(("left", "teller; ask 3 a; ask x+5 a; answer 0"), ("left", ODD))
        self.assertEqual(house.advance(3), [(2, 1, 3), (3, 0, 0)])
        house = house_of(("left", "teller; ask 3 a; ask x+5 a; answer 0"))
        house.advance(3)
        house.arrive(ODD, side="left")
        self.assertEqual(house.facts(1), ("collector", ODD, "left", [3, 5]))
        self.assertEqual(house.next_act(), (3 + 10, 1, 7))
        self.assertEqual(house.settle(), [(13, 1, 7)])

    def test_guards_of_waiting_tellers(self):
        house = house_of(("right", ONE), ("left", "collector; list 0; list 1"))
        self.assertEqual(house.facts(1)[3], [0])
        self.assertEqual(house.settle(), [(2, 1, 1)])
        house = house_of(("left", ONE), ("left", "collector; list 0; list 1"))
        self.assertEqual(house.facts(1)[3], [])
        self.assertEqual(house.settle(), [(1, 1, 0)])

    def test_guards_of_later_machines_do_not_count(self):
        house = house_of(("left", "collector; wait 5; list 0"), ("right", ONE))
        self.assertEqual((house.guards("left"), house.facts(0)[3]), ([(0, 1)], []))
        self.assertEqual(house.settle(), [(6, 0, 0)])
        self.assertEqual((house.guards("left"), house.starts(1)), ([(1, 1)], [(0, None), (6, 0)]))

    def test_barred_is_ascending_without_duplicates(self):
        asks = "teller; ask 12 a; ask 3 a; ask 7 a; answer 0"
        house = house_of(("left", asks), ("right", ONE), ("left", asks))
        house.settle()
        house.arrive(ODD, side="left")
        self.assertEqual(house.guards("left"), [(3, 0), (3, 2), (7, 0), (7, 2), (12, 0), (12, 2), (13, 1)])
        self.assertEqual(house.facts(3)[3], [3, 7, 12, 13])

    def test_all_integers_are_guarded(self):
        house = house_of(("right", ONE), ("left", "collector; list 0; while a == 0; list 0; end"))
        self.assertIsNone(house.next_act())
        self.assertEqual(house.advance(100), [])
        self.assertIs(house.is_satisfied(1), False)
        house.withdraw(0)
        self.assertEqual(house.next_act(), (101, 1, 0))
        self.assertEqual(house.settle(), [(101, 1, 0)])

    def test_a_step_satisfies_it_before_it_can_act(self):
        # It lists the guarded 0, and then 20, which another collector has added, at its step 11.
        for clock, acts in ((9, [(10, 1, 0)]), (10, [])):
            house = house_of(("right", ONE), ("left", "collector; list 0; wait 8; grow 15; list 5"))
            house.arrive(program("collector; grow 15; list 5"), side="left")
            house.advance(clock)
            self.assertEqual((house.members("left"), house.is_satisfied(1)), ([20], False))
            house.withdraw(0)
            self.assertEqual(house.next_act(), acts[0] if acts else None)
            self.assertEqual(house.advance(10), acts)
            self.assertIs(house.is_satisfied(1), True)

    def test_lists_that_never_act(self):
        for text in ("collector; grow 3", "collector; while a == 0; grow 1; end"):
            house = house_of(("left", text))
            self.assertIsNone(house.next_act())
            self.assertEqual((house.advance(10 ** 60), house.is_satisfied(0)), ([], False))

    def test_clocks_and_waits_of_many_digits(self):
        far = FAR * 10 ** 20
        house = house_of(("left", ODD))
        house.advance(far)
        for number in range(1, 4):
            house.arrive(program(f"collector; wait {FAR}; list 1; while a == 0; wait {FAR}; list 1; grow 2; end"),
                         side="left")
        self.assertEqual(house.settle(), [(far + FAR + 1, 1, 1)])
        self.assertEqual([house.is_satisfied(number) for number in range(4)], [True] * 4)


class PrecedenceTest(unittest.TestCase):
    def test_the_one_that_arrived_first_acts(self):
        house = house_of(("left", ZERO), ("right", ZERO))
        self.assertEqual(house.advance(), [(1, 0, 0)])
        self.assertEqual(house.advance(), [(2, 1, 2)])
        house = house_of(("left", "collector; list 7"), ("left", "collector; list 8"), ("left", ZERO))
        self.assertEqual(house.settle(), [(1, 0, 7), (2, 1, 8), (3, 2, 9)])

    def test_no_act_is_lost(self):
        house = house_of(*[("left", f"collector; list {at}") for at in range(8)])
        self.assertEqual(house.advance(100), [(at + 1, at, at) for at in range(8)])

    def test_all_later_tellers_start_again(self):
        house = house_of(("left", ONE), ("left", SLOW), ("right", ZERO), ("right", ODD), ("left", ONE))
        self.assertEqual(house.advance(4), [(1, 2, 2), (2, 3, 3)])
        self.assertEqual([house.is_satisfied(number) for number in range(5)], [False, False, True, True, False])
        self.assertEqual(house.advance(), [(5, 1, 1)])
        self.assertEqual([house.is_satisfied(number) for number in range(5)], [False, True, False, True, False])
        self.assertEqual(house.starts(0), [(0, None)])
        self.assertEqual(house.starts(1), [(0, None)])
        self.assertEqual(house.starts(2), [(0, None), (5, 1)])
        self.assertEqual(house.starts(3), [(0, None)])
        self.assertEqual(house.starts(4), [(0, None), (1, 2), (2, 3), (5, 1)])
        self.assertEqual([position(house, number) for number in (0, 1, 2, 4)], [0, 1, 6, 7])
        self.assertEqual(house.advance(100), [(6, 2, 6)])
        self.assertEqual(house.acts(2), [(1, 2), (6, 6)])
        self.assertEqual(house.starts(4)[4:], [(6, 2)])

    def test_an_act_of_a_collector_starts_later_tellers(self):
        house = house_of(("left", "collector; wait 6; list 2"), ("left", ZERO))
        self.assertEqual(house.settle(), [(1, 1, 0), (7, 0, 2), (8, 1, 3)])
        self.assertEqual(house.starts(1), [(0, None), (7, 0)])

    def test_the_age_counts_from_the_last_start(self):
        house = house_of(("left", "collector; wait 2; list 9"), ("left", SLOW))
        self.assertEqual(house.settle(), [(3, 0, 9), (8, 1, 10)])


class WithdrawTest(unittest.TestCase):
    def test_what_stays(self):
        house = house_of(("left", ZERO), ("left", ONE), ("right", ODD), ("left", ZERO))
        house.settle()
        before = [(house.rank(number), house.starts(number), house.acts(number), house.facts(number)[:3],
                   house.is_satisfied(number)) for number in (1, 2, 3)]
        members = [house.members(side) for side in SIDES]
        clock = house.clock()
        self.assertIsNone(house.withdraw(0))
        self.assertEqual(house.numbers(), [1, 2, 3])
        self.assertEqual(before, [(house.rank(number), house.starts(number), house.acts(number),
                                   house.facts(number)[:3], house.is_satisfied(number)) for number in (1, 2, 3)])
        self.assertEqual((members, clock), ([house.members(side) for side in SIDES], house.clock()))

    def test_its_number_is_gone(self):
        house = house_of(("left", ZERO), ("left", ONE))
        house.withdraw(0)
        for call in (house.withdraw, house.rank, house.is_satisfied, house.starts, house.acts, house.facts):
            with self.assertRaises(NoMachine) as caught:
                call(0)
            self.assertEqual(caught.exception.number, 0)

    def test_a_withdrawn_machine_does_not_act(self):
        house = house_of(("left", ZERO), ("left", SLOW))
        house.withdraw(0)
        self.assertEqual(house.settle(), [(5, 1, 1)])

    def test_the_cause_may_be_withdrawn(self):
        house = house_of(("left", ZERO), ("left", ONE))
        house.advance()
        house.withdraw(0)
        self.assertEqual(house.starts(1), [(0, None), (1, 0)])

    def test_all(self):
        house = house_of(("left", ZERO), ("right", ODD))
        house.withdraw(0)
        house.withdraw(1)
        self.assertEqual((house.numbers(), len(house), house.next_act(), house.advance(5)), ([], 0, None, []))


class StepsTest(unittest.TestCase):
    # A run of each length, and collectors between.
    ROWS = (
        ("left", "teller; wait 11; ask x-1 a; if a == 0; answer 0; end; answer 1"),
        ("right", "collector; wait 4; while a == 0; list 1; grow 3; end"),
        ("right", "teller; ask x+2 a; wait 2; answer 0"),
        ("left", "collector; list 4; grow 9; list 5; list 2"),
        ("left", "teller; ask 4 a; if a == 1; wait 3; answer 0; end; answer 1"),
    )

    def test_no_steps(self):
        house = house_of(*self.ROWS)
        before = house.twin()
        self.assertEqual(house.advance(0), [])
        self.assertEqual(house, before)
        self.assertEqual(House().advance(0), [])

    def test_one_step(self):
        house, other = house_of(*self.ROWS), house_of(*self.ROWS)
        self.assertEqual(house.advance(), other.advance(1))
        self.assertEqual(house, other)
        self.assertEqual(house.clock(), 1)

    def test_many_steps_in_parts_and_one_by_one(self):
        whole = house_of(*self.ROWS)
        acts = whole.advance(60)
        self.assertGreaterEqual(len(acts), 7)
        for sizes in ([1] * 60, [20, 40], [59, 1], [7] * 8 + [4], [0, 13, 0, 0, 47], [2, 3] * 12):
            house = house_of(*self.ROWS)
            found = []
            for many in sizes:
                found += house.advance(many)
            self.assertEqual((found, house.clock()), (acts, 60))
            self.assertEqual(house, whole)

    def test_very_many_steps(self):
        most = 10 ** 60
        house = house_of(*self.ROWS)
        acts = house.advance(most)
        self.assertEqual(acts, house_of(*self.ROWS).settle())
        self.assertEqual(house.clock(), most)
        self.assertEqual(house.advance(most), [])
        self.assertEqual(house.clock(), 2 * most)
        other = house_of(*self.ROWS)
        other.advance(most - 17)
        other.advance(17)
        other.advance(1)
        other.advance(most - 1)
        self.assertEqual(house, other)

    def test_long_waits(self):
        house = house_of(("left", f"teller; wait {FAR}; answer 0"), ("left", f"collector; wait {FAR}; wait 1; list 2"))
        self.assertEqual(house.next_act(), (FAR + 1, 0, 0))
        self.assertEqual(house.advance(FAR), [])
        self.assertEqual(house.advance(1), [(FAR + 1, 0, 0)])
        self.assertEqual(house.advance(10 ** 60), [(FAR + 2, 1, 2)])
        self.assertEqual(house.clock(), FAR + 1 + 10 ** 60)

    def test_settle(self):
        house = house_of(*self.ROWS)
        acts = house.settle()
        self.assertEqual(house.clock(), acts[-1][0])
        other = house_of(*self.ROWS)
        self.assertEqual(other.advance(acts[-1][0]), acts)
        self.assertEqual(house, other)
        self.assertEqual((house.settle(), house.clock()), ([], acts[-1][0]))
        self.assertEqual(house.advance(1000), [])
        self.assertEqual((house.settle(), house.clock()), ([], acts[-1][0] + 1000))

    def test_settle_where_nothing_can_act(self):
        for rows in ((), (("left", ONE), ("right", SILENT)), (("right", ONE), ("left", "collector; list 0"))):
            house = house_of(*rows)
            for clock in (0, 9):
                self.assertEqual((house.settle(), house.clock()), ([], clock))
                house.advance(9)

    def test_next_act_before_each_act(self):
        acts = house_of(*self.ROWS).settle()
        house = house_of(*self.ROWS)
        for act in acts:
            while house.clock() + 1 < act[0]:
                self.assertEqual(house.next_act(), act)
                self.assertEqual(house.advance(), [])
            self.assertEqual(house.next_act(), act)
            self.assertEqual(house.advance(), [act])
        self.assertIsNone(house.next_act())
        house.advance(50)
        self.assertIsNone(house.next_act())


class TwoHousesTest(unittest.TestCase):
    def test_each_lives_its_own_life(self):
        one, other = House(), House()
        self.assertEqual(one.arrive(ASKS, side="left"), 0)
        self.assertEqual(one.advance(5), [(2, 0, 0)])
        self.assertEqual((other.clock(), other.numbers(), other.history()), (0, [], []))
        self.assertEqual(other.arrive(ODD, side="right"), 0)
        self.assertEqual(other.arrive(ZERO, side="right"), 1)
        self.assertEqual(other.settle(), [(1, 1, 0), (2, 0, 3), (3, 1, 4)])
        self.assertEqual((one.members("left"), one.members("right"), one.guards("left")), ([], [0], [(9, 0)]))
        self.assertEqual((other.members("left"), other.members("right"), other.guards("left")), ([0, 4], [3], []))
        one.withdraw(0)
        self.assertEqual((one.numbers(), other.numbers()), ([], [0, 1]))
        self.assertEqual(other.undo(), ("advance", 3))
        self.assertEqual((one.clock(), other.clock()), (5, 0))
        self.assertEqual((one.arrive(ONE, side="left"), position(one, 1)), (1, 10))
        self.assertEqual((other.arrive(ONE, side="left"), position(other, 2)), (2, 1))


if __name__ == "__main__":
    unittest.main()
