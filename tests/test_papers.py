"""Points 20 and 21: the papers of a house that is at rest."""

import copy
import random
import unittest

from neithertells.errors import NoMachine, Unsettled
from neithertells.house import SIDES, House
from neithertells.listings import Listing
from neithertells.papers import paper_of
from samples import NO_INTEGERS, drawn_machine, nested_list, nested_tuple, plain_list, program, view

ZERO = program("teller; answer 0")
ONE = program("teller; answer 1")
LATE = program("teller; wait 1000000000000000000000000000000; answer 0")
# Satisfied at once, it guards 0 to 15 in its side.
KEEPER = program("teller; ask b a; add b 1; while b != 0; ask b a; add b 1; end; answer 0")


def house_of(*machines):
    """A house at rest; each machine is a text and a side."""
    house = House()
    for text, side in machines:
        house.arrive(program(text), side=side)
        house.settle()
    return house


class PaperTest(unittest.TestCase):
    def check(self, house, number, paper):
        """This is the paper, part by part, and the house stays as it is."""
        before = view(house)
        found = paper_of(house, number)
        self.assertEqual(found, paper)
        self.assertEqual([type(part) for part in found], [type(part) for part in paper])
        self.assertIs(type(found), tuple)
        self.assertEqual(view(house), before)

    def test_interface(self):
        house = House()
        self.assertEqual(house.arrive(program("teller; ask 3 b; answer 1"), side="left"), 0)
        self.assertEqual(paper_of(house, 0), ("missing", 2, [3]))

    def test_member(self):
        for side in SIDES:
            self.check(house_of(("teller; answer 0", side)), 0, ("member", 1, []))
            self.check(house_of(("teller; ask x+9 a; ask 3 b; ask x-1 b; answer 0", side)), 0, ("member", 4, [3, 9]))
        asks = "teller; ask x-1 a; if a == 0; answer 1; end; answer 0"
        house = house_of(("teller; answer 0", "right"), (asks, "left"))
        self.check(house, 0, ("member", 1, []))
        self.check(house, 1, ("member", 3, [0]))
        house = house_of(("teller; answer 0", "right"), (asks, "right"))
        self.check(house, 1, ("missing", 3, [0]))

    def test_member_after_a_start(self):
        house = House()
        house.arrive(program("teller; wait 4; answer 0"), side="left")
        house.arrive(program("teller; ask x+1 a; answer 0"), side="left")
        house.settle()
        self.assertEqual(len(house.starts(1)), 2)
        position = house.facts(1)[3]
        self.check(house, 0, ("member", 5, []))
        self.check(house, 1, ("member", 2, [position + 1]))

    def test_missing(self):
        for side in SIDES:
            self.check(house_of(("teller; answer 1", side)), 0, ("missing", 1, []))
            self.check(house_of(("teller; ask 3 b; ask x-1 a; ask x+2 a; answer 1", side)), 0, ("missing", 4, [2, 3]))
        # Its run is that on the members of now.
        house = house_of(("teller; while a == 0; ask 3 a; end; answer 1", "left"), ("collector; list 3", "left"))
        self.check(house, 0, ("missing", 5, [3]))

    def test_ended(self):
        for side in SIDES:
            self.check(house_of(("teller", side)), 0, ("ended", 0, []))
            self.check(house_of(("teller; ask 5 a; wait 1000000000000", side)), 0, ("ended", 1 + 10 ** 12, [5]))
            self.check(house_of(("teller", side), ("teller; ask x-1 a; ask x+0 a", side)), 1, ("ended", 2, [0, 1]))

    def test_silent(self):
        for side in SIDES:
            self.check(house_of(("teller; while a == 0; end", side)), 0, ("silent", 0, 2, []))
            house = house_of(("teller; ask x+0 b; set a 1; while a == 1; wait 7; ask 4 b; end", side))
            self.check(house, 0, ("silent", 2, 12, [0, 4]))

    def test_listed_in_the_head(self):
        for side in SIDES:
            self.check(house_of(("collector; list 4; list 2", side)), 0, ("listed", 1, 4))
            house = house_of(("teller; ask 4 a; answer 0", side), ("collector; list 4; wait 9; list 2", side))
            self.check(house, 1, ("listed", 11, 2))
            house = house_of(("teller; ask 4 a; answer 0", side), ("collector; list 4; list 2; while a == 0; list 4; end", side))
            self.check(house, 1, ("listed", 2, 2))

    def test_listed_in_the_cycle(self):
        for side in SIDES:
            self.check(house_of(("collector; while a == 0; list 3; grow 2; end", side)), 0, ("listed", 2, 3))
            house = house_of(("teller; ask 3 a; answer 0", side), ("collector; while a == 0; list 3; grow 2; end", side))
            self.check(house, 1, ("listed", 6, 5))

    def test_listed_in_a_far_round(self):
        house = House()
        house.arrive(KEEPER, side="left")
        house.settle()
        self.assertEqual(house.guards("left"), [(integer, 0) for integer in range(16)])
        house.arrive(program("collector; while a == 0; wait 1000000000000000000000000000000; list 0; grow 1; end"), side="left")
        house.settle()
        # Each round takes the test, the wait, the list, the growth and the jump.
        self.check(house, 1, ("listed", 16 * (10 ** 30 + 4) + 2 + 10 ** 30, 16))

    def test_the_least_step(self):
        house = house_of(("collector; list 9", "left"), ("collector; list 4", "left"))
        for text, paper in (
            ("collector; list 4; list 9", ("listed", 1, 4)),
            ("collector; list 9; list 4", ("listed", 1, 9)),
            ("collector; list 9; list 9; list 4", ("listed", 1, 9)),
            ("collector; while a == 0; list 9; list 4; end", ("listed", 2, 9)),
            ("collector; while a == 0; list 4; list 9; end", ("listed", 2, 4)),
            ("collector; while a == 0; grow 1; list 8; list 3; end", ("listed", 3, 9)),
            # The member itself comes up again, and a member of less comes later.
            ("collector; list 9; while a == 0; list 4; list 9; end", ("listed", 1, 9)),
        ):
            twin = house.twin()
            number = twin.arrive(program(text), side="left")
            self.assertIsNone(twin.next_act())
            self.check(twin, number, paper)

    def test_a_member_that_is_listed_later_than_now(self):
        """At rest the collector may wait: it will be satisfied by a step, not by an act."""
        house = house_of(("teller; ask 3 a; answer 0", "left"), ("collector; list 7", "left"))
        house.arrive(program("collector; list 3; wait 1000000000000000000000000000000; list 7; list 8"), side="left")
        self.assertIsNone(house.next_act())
        self.assertFalse(house.is_satisfied(2))
        self.check(house, 2, ("listed", 10 ** 30 + 2, 7))
        house.advance(10 ** 31)
        self.assertTrue(house.is_satisfied(2))
        self.check(house, 2, ("listed", 10 ** 30 + 2, 7))

    def test_a_member_that_is_guarded(self):
        """An integer may be a member before it is guarded."""
        house = house_of(("collector; list 3", "left"), ("teller; ask 3 a; answer 0", "left"), ("collector; list 3", "left"))
        self.assertEqual(house.facts(2)[3], [3])
        self.check(house, 2, ("listed", 1, 3))

    def test_spent(self):
        keeper = ("teller; ask 3 a; ask 9 a; answer 0", "left")
        for text, integers in (
            ("collector", []),
            ("collector; grow 5; wait 3", []),
            ("collector; while a == 0; grow 1; end", []),
            ("collector; while a == 0; end", []),
            ("collector; list 3", [3]),
            ("collector; list 9; list 3; list 9", [3, 9]),
            ("collector; while a == 0; list 9; list 3; end", [3, 9]),
            ("collector; list 9; while a == 0; list 3; list 3; end", [3, 9]),
            ("collector; list 9; grow 3; while a == 0; list 0; end", [3, 9]),
            ("collector; list 9; while a == 0; grow 3; end", [9]),
        ):
            self.check(house_of(keeper, (text, "left")), 1, ("spent", integers))

    def test_spent_by_the_position_of_a_waiting_teller(self):
        house = house_of(("teller; answer 1", "right"), ("collector; list 0", "left"), ("collector; list 0", "right"))
        self.check(house, 1, ("spent", [0]))
        self.check(house, 2, ("listed", 1, 0))

    def test_spent_only_in_its_side(self):
        house = house_of(("teller; ask 3 a; answer 0", "left"), ("collector; list 3", "right"))
        self.check(house, 1, ("listed", 1, 3))

    def test_papers_of_a_restless_house_at_rest(self):
        house = House()
        house.arrive(program("teller; ask 0 a; if a == 1; answer 1; else; answer 0; end"), side="left")
        house.arrive(ZERO, side="right")
        house.arrive(program("collector; while a == 0; list 3; grow 2; end"), side="left")
        house.settle()
        self.check(house, 0, ("member", 3, [0]))
        self.check(house, 1, ("member", 1, []))
        self.check(house, 2, ("listed", 2, 3))


class UnsettledTest(unittest.TestCase):
    def check_unsettled(self, house):
        before = view(house)
        for number in house.numbers():
            with self.assertRaises(Unsettled) as caught:
                paper_of(house, number)
            self.assertIs(type(caught.exception), Unsettled)
            self.assertIsInstance(caught.exception, RuntimeError)
        self.assertEqual(view(house), before)

    def check_settled(self, house):
        return [paper_of(house, number)[0] for number in house.numbers()]

    def test_before_the_last_act_and_after_it(self):
        house = House()
        for text, side in (("teller; wait 4; answer 0", "left"), ("collector; while a == 0; list 3; grow 2; end", "left"),
                           ("teller; ask x+9 a; answer 0", "right"), ("teller; answer 1", "left")):
            house.arrive(program(text), side=side)
        last = house.twin().settle()[-1][0]
        while house.clock() < last:
            self.check_unsettled(house)
            house.advance()
        self.assertEqual(self.check_settled(house), ["member", "listed", "member", "missing"])
        house.advance(10 ** 60)
        self.assertEqual(self.check_settled(house), ["member", "listed", "member", "missing"])
        house.undo()
        house.undo()
        self.check_unsettled(house)

    def test_far_acts(self):
        house = House()
        house.arrive(LATE, side="left")
        house.advance(10 ** 30)
        self.check_unsettled(house)
        house.advance()
        self.assertEqual(self.check_settled(house), ["member"])

    def test_arrivals(self):
        house = House()
        house.arrive(ONE, side="left")
        self.assertEqual(self.check_settled(house), ["missing"])
        house.arrive(ZERO, side="left")
        self.check_unsettled(house)
        house.advance()
        self.assertEqual(self.check_settled(house), ["missing", "member"])
        house.arrive(ONE, side="right")
        self.assertEqual(self.check_settled(house), ["missing", "member", "missing"])

    def test_withdrawals(self):
        house = house_of(("teller; ask 3 a; answer 0", "left"), ("collector; list 3", "left"))
        self.assertEqual(self.check_settled(house), ["member", "spent"])
        house.withdraw(0)
        self.check_unsettled(house)
        house.advance()
        self.assertEqual(self.check_settled(house), ["listed"])
        house.arrive(LATE, side="left")
        self.check_unsettled(house)
        house.withdraw(2)
        self.assertEqual(self.check_settled(house), ["listed"])

    def test_while_a_watch_is_called(self):
        house = House()
        house.arrive(program("teller; wait 4; answer 0"), side="left")
        house.arrive(ZERO, side="left")
        told = []

        def watch(act):
            try:
                told.append(paper_of(house, 0))
            except Unsettled:
                told.append(None)

        house.settle(watch=watch)
        self.assertEqual(told, [None, None, ("member", 5, [])])


class NoMachineTest(unittest.TestCase):
    def test_before_unsettled(self):
        restless = house_of(("teller; answer 1", "left"), ("teller; answer 1", "left"), ("teller; answer 1", "left"))
        restless.arrive(ZERO, side="left")
        restless.withdraw(1)
        restful = restless.twin()
        restful.settle()
        for house in (House(), restless, restful):
            before = view(house)
            for number in (*NO_INTEGERS, 1, 4, -1, 10 ** 99, -10 ** 99, [2], (2,), "2", nested_list(20), nested_tuple(20)):
                with self.assertRaises(NoMachine) as caught:
                    paper_of(house, number)
                self.assertIs(type(caught.exception), NoMachine)
                self.assertIsInstance(caught.exception, LookupError)
                self.assertEqual(caught.exception.number, number)
                self.assertIs(type(caught.exception.number), type(number))
            self.assertEqual(view(house), before)
        for number in restless.numbers():
            with self.assertRaises(Unsettled):
                paper_of(restless, number)


class OwnListsTest(unittest.TestCase):
    def test_the_lists_may_be_changed(self):
        house = house_of(
            ("teller; ask 3 a; answer 0", "left"), ("collector; list 3", "left"), ("teller; ask 5 a; answer 1", "left"),
            ("teller; ask 5 a", "right"), ("teller; ask 5 a; while a == 0; end", "right"),
        )
        before = view(house)
        for number in house.numbers():
            paper = paper_of(house, number)
            kept = copy.deepcopy(paper)
            paper[-1].append(77)
            paper[-1][0] = "x"
            self.assertEqual(paper_of(house, number), kept)
            self.assertEqual(view(house), before)
        house.withdraw(0)
        self.assertEqual(house.settle(), [(3, 1, 3)])

    def test_papers_stay(self):
        house = house_of(("teller; ask 3 a; answer 1", "left"), ("collector", "left"))
        papers = [paper_of(house, 0), paper_of(house, 1)]
        kept = copy.deepcopy(papers)
        house.arrive(program("collector; list 3"), side="left")
        house.settle()
        house.withdraw(0)
        self.assertEqual(papers, kept)

    def test_by_name(self):
        house = house_of(("teller; answer 1", "left"))
        self.assertEqual(paper_of(house=house, number=0), ("missing", 1, []))
        self.assertEqual(paper_of(number=0, house=house), ("missing", 1, []))
        self.assertEqual(paper_of(house, number=0), ("missing", 1, []))


class DrawnTest(unittest.TestCase):
    def test_collectors(self):
        """The paper of a collector, found by looking along its list."""
        source = random.Random(21)
        words = set()
        for _ in range(300):
            house = House()
            for _ in range(source.randrange(1, 8)):
                house.arrive(drawn_machine(source), side=source.choice(SIDES))
                house.advance(source.randrange(6))
            house.settle()
            for number in house.numbers():
                kind, collector, side, barred = house.facts(number)
                if kind == "collector":
                    members = house.members(side)
                    rows = plain_list(collector, 3000)
                    found = [("listed", *row) for row in rows if row[1] in members]
                    spent = ("spent", sorted({integer for step, integer in rows}))
                    self.assertEqual(paper_of(house, number), found[0] if found else spent)
                    if not found:
                        self.assertLessEqual(set(spent[1]), set(barred))
                        self.assertFalse(Listing(collector).is_endless())
                    words.add(paper_of(house, number)[0])
        self.assertEqual(words, {"listed", "spent"})


if __name__ == "__main__":
    unittest.main()
