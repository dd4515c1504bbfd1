"""Point 24: a desk, its rows and its answers."""

import random
import unittest

from neithertells.desk import Desk
from neithertells.errors import BadRow, BadSteps, Full, HouseError, NoMachine, NothingDone, Unsettled
from neithertells.house import SIDES, House
from neithertells.notation import show
from neithertells.papers import paper_of
from samples import NO_INTEGERS, NO_PROGRAMS, drawn_machine, nested_list, nested_tuple, program

ZERO = "teller; answer 0"
MOST = 10 ** 60

NO_NUMBERS = (
    "", "00", "01", "007", "+1", "-1", "-0", "+0", "1_0", "1.0", "1e3", "0x1", "one", "None", "True", "a", "x", "1,", "1;", ":",
    "1" * 62, "9" * 62, "1" + "0" * 61, "0" + "1" * 60, "0" * 61, "1" * 4500, "0" * 4500, "left", "1\n", "\n1", "\t1", "1\t", "(1)",
)

NO_TEXTS = (
    "", " ", ";", "; ", "teller;", "teller; ", "; teller", " teller", "teller ", "teller;answer 0", "teller ;answer 0",
    "teller ; answer 0", "teller;  answer 0", "teller; answer  0", "teller; answer 0;", "teller; answer 0; ", "teller; ; answer 0",
    "teller; answer 2", "teller; answer", "Teller; answer 0", "TELLER", "teller; Answer 0", "teller; list 0", "collector; answer 0",
    "teller; if a == 0", "teller; end", "teller; else", "teller; set a 01", "teller; set a 16", "teller\nanswer 0", "teller;\nanswer 0",
    "teller; answer 0\n", "\nteller", "teller\n; answer 0", "teller, answer 0", "machine", "x" * 4900, "teller" + "; set a 0" * 25,
    "left teller; answer 0", "teller teller", "teller; answer 0 left", "answer 0", "0",
)

NO_SIDES = ("", "Left", "LEFT", "RIGHT", "middle", "lef", "leftright", "left,", "left;", "0", "None", "left\n", "\tleft", "SIDE")

# Rows that are none, whatever the house is like.
NO_ROWS = (
    "", " ", "  ", "\n", "\t", ";", "none", "ok", "help", "next", "numbers", "history", "guards left", "rank 0", "twin", "facts 0",
    *[f"{word}{number}" for word in ("withdraw ", "advance ", "state ", "paper ") for number in NO_NUMBERS],
    *[f"members {side}" for side in NO_SIDES],
    *[f"arrive {side} {ZERO}" for side in NO_SIDES],
    *[f"arrive {side} {text}" for side in SIDES for text in NO_TEXTS],
    "arrive", "arrive ", "arrive left", "arrive left ", f"arrive {ZERO}", f"arrive {ZERO} left", f"arrive left right {ZERO}",
    "withdraw", "advance", "state", "paper", "members",
    "withdraw 0 0", "advance 1 1", "state 0 0", "paper 0 0", "members left right", "members left left", "advance 1 left",
    "undo 0", "undo undo", "undo 1", "settle 1", "settle 0", "settle settle", "clock 0", "clock clock", "clock left",
    *[f"{row}{end}" for row in (
        "undo", "settle", "clock", "members left", "members right", "withdraw 0", "advance 1", "state 0", "paper 0", "arrive left teller",
    ) for end in (" ", "  ", "\n", "\t", ";", "; ", " x", ".", "\nclock", " ; clock", "; clock")],
    *[f"{start}{row}" for row in (
        "undo", "settle", "clock", "members left", "withdraw 0", "advance 1", "state 0", "paper 0", "arrive left teller",
    ) for start in (" ", "  ", "\n", "\t", ";", "x", "- ")],
    "members  left", "withdraw  0", "advance  1", "state  0", "paper  0", "arrive  left teller", "arrive left  teller",
    "members\tleft", "advance\n1", "advance,1", "advance:1", "advance1", "arrive\nleft teller",
    "Undo", "UNDO", "Settle", "Clock", "CLOCK", "Members left", "MEMBERS LEFT", "Withdraw 0", "Advance 1", "State 0", "Paper 0",
    "Arrive left teller", "arrive Left teller", "undone", "undo0", "settled", "clocks", "member left", "papers 0", "states 0",
    "x" * 5000, " " * 5000, "clock " * 800, "clock" + " " * 4900, "advance " + "1" * 4900,
)

NO_STRINGS = (
    *[thing for thing in (*NO_PROGRAMS, *NO_INTEGERS) if not isinstance(thing, str)],
    1, ["clock"], ("clock",), ("advance", 1), ["advance", "1"], (("clock",),), nested_list(20), nested_tuple(20), [None] * 2000,
)


def desk_of(*rows):
    desk = Desk()
    for row in rows:
        desk.say(row)
    return desk


def restful_desk():
    """A desk with three machines at rest, of which the second one is withdrawn."""
    return desk_of("arrive left teller; ask 3 a; answer 0", f"arrive right {ZERO}", "arrive left collector; list 3", "settle", "withdraw 1")


def restless_desk():
    return desk_of("arrive left teller; wait 4; answer 0", f"arrive left {ZERO}", "arrive right teller; answer 1", "advance 2")


def full_desk():
    return desk_of(*["arrive left teller; answer 1"] * 8)


def desk_view(desk):
    """The clock, the sets and the states, or the numbers that no machine has."""
    state = [desk.say("clock"), *[desk.say(f"members {side}") for side in SIDES]]
    for number in range(12):
        try:
            state.append(desk.say(f"state {number}"))
        except NoMachine as error:
            state.append(error.number)
    return state


class AnswerTest(unittest.TestCase):
    def check(self, desk, *pairs):
        for row, answer in pairs:
            found = desk.say(row)
            self.assertEqual(found, answer, row)
            self.assertIs(type(found), str)

    def test_interface(self):
        self.check(Desk(), ("arrive left teller; wait 4; answer 0", "0"), ("settle", "5:0:0"), ("paper 0", "member"))

    def test_a_new_desk(self):
        self.check(Desk(), ("clock", "0"), ("members left", "none"), ("members right", "none"), ("settle", "none"), ("advance 0", "none"))

    def test_arrive(self):
        desk = Desk()
        self.check(
            desk, ("arrive left teller", "0"), ("arrive right collector", "1"), (f"arrive right {ZERO}", "2"), ("withdraw 2", "ok"),
            ("arrive left teller; ask x+b a; if a == 1; answer 1; else; while b < 5; add b 1; end; end", "3"),
            ("arrive left collector; while a == 0; list 3; grow 2; end", "4"),
        )
        for number in range(5, 25):
            self.check(desk, ("arrive left teller", str(number)), (f"withdraw {number}", "ok"))

    def test_the_program_that_arrives(self):
        desk = desk_of("arrive right teller; ask x-1 a; if a == 1; answer 1; end; wait 9; answer 0")
        self.check(desk, ("advance 11", "none"), ("advance 1", "12:0:0"), ("members left", "0"), ("members right", "none"))
        desk = desk_of("arrive left teller; ask x-1 a; if a == 1; answer 1; end; wait 9; answer 0")
        self.check(desk, ("settle", "12:0:0"), ("members left", "none"), ("members right", "0"))

    def test_withdraw(self):
        desk = desk_of("arrive left teller", "arrive left teller")
        self.check(desk, ("withdraw 1", "ok"), ("withdraw 0", "ok"), ("clock", "0"), ("arrive left teller", "2"))

    def test_undo(self):
        desk = desk_of(f"arrive left {ZERO}", "settle", "advance 0", "withdraw 0", "arrive right teller", "advance 7")
        self.check(
            desk, ("undo", "advance"), ("clock", "1"), ("undo", "arrive"), ("undo", "withdraw"), ("state 0", "satisfied"),
            ("undo", "advance"), ("undo", "advance"), ("clock", "0"), ("members right", "none"), ("undo", "arrive"),
        )
        with self.assertRaises(NothingDone):
            desk.say("undo")

    def test_advance_and_settle(self):
        rows = ("arrive left teller; wait 4; answer 0", "arrive left collector; while a == 0; list 3; grow 2; end",
                "arrive right teller; ask x+9 a; answer 0", f"arrive left {ZERO}")
        acts = desk_of(*rows).say("settle")
        house = House()
        for row in rows:
            word, side, text = row.split(" ", 2)
            house.arrive(program(text), side=side)
        self.assertEqual(acts, " ".join(":".join(map(str, act)) for act in house.settle()))
        self.assertEqual(acts.split(" ")[0], "1:3:2")
        self.assertGreater(acts.count(" "), 4)
        last = int(acts.split(" ")[-1].split(":")[0])
        self.check(desk_of(*rows), (f"advance {last}", acts), ("settle", "none"), ("advance 1", "none"), ("clock", str(last + 1)))
        desk = desk_of(*rows)
        single = [desk.say("advance 1") for _ in range(last)]
        self.assertEqual(" ".join(answer for answer in single if answer != "none"), acts)

    def test_very_many_steps(self):
        desk = desk_of("arrive left teller; wait 1000000000000000000000000000000; answer 0")
        self.check(
            desk, (f"advance {10 ** 30}", "none"), (f"advance {MOST}", f"{10 ** 30 + 1}:0:0"), ("clock", str(10 ** 30 + MOST)),
            (f"advance {MOST - 1}", "none"), (f"advance {'9' * 60}", "none"), ("undo", "advance"),
        )

    def test_members(self):
        desk = desk_of("arrive left collector; grow 12; list 0", "arrive left collector; list 3", "arrive right collector; list 9", "settle")
        self.check(desk, ("members left", "3 12"), ("members right", "9"))
        desk = desk_of("arrive left collector; list 0", "settle")
        self.check(desk, ("members left", "0"), ("members right", "none"))

    def test_state(self):
        desk = desk_of("arrive left teller; wait 1; answer 0", "arrive left teller; answer 1", "arrive left collector; wait 4; list 0")
        self.check(desk, ("state 0", "waiting"), ("state 1", "waiting"), ("state 2", "waiting"))
        self.check(desk, ("advance 2", "2:0:0"), ("state 0", "satisfied"), ("state 1", "waiting"), ("state 2", "waiting"))
        self.check(desk, ("advance 3", "5:2:0"), ("state 0", "satisfied"), ("state 1", "waiting"), ("state 2", "satisfied"))

    def test_each_paper(self):
        desk = desk_of(
            "arrive left teller; ask 3 a; answer 0", "settle", "arrive left teller; answer 1", "arrive left teller",
            "arrive left teller; while a == 0; end", "arrive left collector; list 9", "arrive left collector; list 3", "settle",
        )
        words = ("member", "missing", "ended", "silent", "listed", "spent")
        self.check(desk, *[(f"paper {number}", word) for number, word in enumerate(words)])

    def test_drawn_rows(self):
        """A desk beside a house that is told the same by calls."""
        source = random.Random(24)
        answers = set()
        for _ in range(120):
            desk, house = Desk(), House()
            for _ in range(25):
                row, answer = self.drawn_pair(source, house)
                self.assertEqual(desk.say(row), answer, row)
                answers.add((row.split(" ")[0], answer if answer.isalpha() else "other"))
            self.assertEqual(desk.say("clock"), str(house.clock()))
        self.assertGreater(len(answers), 17)

    def drawn_pair(self, source, house):
        """A row and what its answer must be, by calls of the house."""
        choice = source.randrange(9)
        if choice < 3 and len(house) < 8:
            machine, side = drawn_machine(source), source.choice(SIDES)
            return f"arrive {side} {show(machine)}".replace("\n", "; "), str(house.arrive(machine, side=side))
        if choice == 3 and len(house) > 3:
            number = source.choice(house.numbers())
            house.withdraw(number)
            return f"withdraw {number}", "ok"
        if choice == 4 and len(house.history()) > 9:
            return "undo", house.undo()[0]
        if choice == 5:
            side = source.choice(SIDES)
            return f"members {side}", " ".join(map(str, house.members(side))) or "none"
        if choice == 6 and len(house) > 0:
            number = source.choice(house.numbers())
            return f"state {number}", "satisfied" if house.is_satisfied(number) else "waiting"
        if choice == 7 and len(house) > 0 and house.next_act() is None:
            number = source.choice(house.numbers())
            return f"paper {number}", paper_of(house, number)[0]
        many = source.choice((0, 1, 3, 9, MOST, None))
        acts = house.settle() if many is None else house.advance(many)
        row = "settle" if many is None else f"advance {many}"
        return row, " ".join(f"{clock}:{number}:{integer}" for clock, number, integer in acts) or "none"

    def test_by_name(self):
        self.assertEqual(Desk().say(row="clock"), "0")


class ErrorTest(unittest.TestCase):
    def check(self, error, make, row):
        """The row raises this error; clock, sets, states and history are as before."""
        desk, before = make(), make()
        with self.assertRaises(error, msg=repr(row)) as caught:
            desk.say(row)
        self.assertIs(type(caught.exception), error, row)
        self.same(desk, before)
        return caught.exception

    def same(self, one, other):
        """Two desks tell the same, now and after each undo."""
        while True:
            self.assertEqual(desk_view(one), desk_view(other))
            words = []
            for desk in (one, other):
                try:
                    words.append(desk.say("undo"))
                except NothingDone:
                    words.append(None)
            self.assertEqual(words[0], words[1])
            if words[0] is None:
                return

    def test_rows_that_are_none(self):
        desks = [Desk(), restful_desk(), restless_desk(), full_desk()]
        before = [desk_view(desk) for desk in desks]
        for desk in desks:
            for row in (*NO_ROWS, *NO_STRINGS):
                with self.assertRaises(BadRow, msg=repr(row)) as caught:
                    desk.say(row)
                self.assertIs(type(caught.exception), BadRow)
                self.assertIsInstance(caught.exception, HouseError)
        self.assertEqual([desk_view(desk) for desk in desks], before)
        for desk, make in zip(desks, (Desk, restful_desk, restless_desk, full_desk)):
            self.same(desk, make())

    def test_lists_that_are_passed_stay(self):
        row = ["clock", ["left"]]
        with self.assertRaises(BadRow):
            Desk().say(row)
        self.assertEqual(row, ["clock", ["left"]])

    def test_numbers_that_no_machine_has(self):
        for make in (Desk, restful_desk, restless_desk, full_desk):
            absent = [number for number in range(9) if desk_view(make())[3 + number] == number]
            self.assertNotEqual(absent, [])
            for number in (*absent, 99, int("9" * 61), MOST, 10 ** 59):
                for word in ("withdraw", "state", "paper"):
                    error = self.check(NoMachine, make, f"{word} {number}")
                    self.assertEqual(error.number, number)
                    self.assertIs(type(error.number), int)

    def test_steps_above_the_most(self):
        for make in (Desk, restful_desk, restless_desk):
            for many in (MOST + 1, 2 * MOST, int("9" * 61)):
                self.check(BadSteps, make, f"advance {many}")
            self.assertEqual(make().say(f"advance {MOST}") == "none", make is not restless_desk)

    def test_a_ninth_machine(self):
        error = self.check(Full, full_desk, f"arrive left {ZERO}")
        self.assertEqual(error.most, 8)
        self.check(Full, full_desk, "arrive right collector")
        self.check(BadRow, full_desk, "arrive right collector; answer 0")
        self.check(BadRow, full_desk, f"arrive middle {ZERO}")

    def test_an_empty_history(self):
        self.check(NothingDone, Desk, "undo")
        self.check(NothingDone, lambda: desk_of("clock", "members left"), "undo")

    def test_a_paper_while_the_house_can_act(self):
        for number in range(3):
            self.check(Unsettled, restless_desk, f"paper {number}")
        self.check(NoMachine, restless_desk, "paper 3")
        desk = restless_desk()
        desk.say("settle")
        self.assertEqual([desk.say(f"paper {number}") for number in range(3)], ["member", "member", "missing"])

    def test_a_desk_goes_on_after_errors(self):
        desk = Desk()
        for row, answer in (("arrive left teller; answer 0", "0"), ("advance 1", "1:0:0"), ("clock", "1"), ("members right", "0")):
            for wrong in ("x", "withdraw 7", f"advance {MOST + 1}", "arrive left teller; answer 2", None):
                with self.assertRaises((BadRow, NoMachine, BadSteps)):
                    desk.say(wrong)
            self.assertEqual(desk.say(row), answer)


class TwoDesksTest(unittest.TestCase):
    def test_each_has_its_own_house(self):
        one, other = Desk(), Desk()
        self.assertEqual(one.say(f"arrive left {ZERO}"), "0")
        self.assertEqual(one.say("settle"), "1:0:0")
        self.assertEqual([other.say("clock"), other.say("members right"), other.say("settle")], ["0", "none", "none"])
        self.assertEqual(other.say("arrive right teller; answer 1"), "0")
        self.assertEqual([one.say("state 0"), other.say("state 0")], ["satisfied", "waiting"])
        self.assertEqual([one.say("paper 0"), other.say("paper 0")], ["member", "missing"])
        self.assertEqual([other.say("undo"), other.say("undo")], ["arrive", "advance"])
        with self.assertRaises(NothingDone):
            other.say("undo")
        self.assertEqual([one.say("undo"), one.say("undo")], ["advance", "arrive"])


if __name__ == "__main__":
    unittest.main()
