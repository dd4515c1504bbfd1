"""Drawn histories, against a plain house that takes single steps by the words of points 12 to 16."""

import copy
import random
import unittest

from neithertells.errors import Full
from neithertells.house import SIDES, House
from neithertells.listings import Listing
from neithertells.runs import run
from samples import drawn_machine, plain_list, plain_run

OTHER = {"left": "right", "right": "left"}


class PlainMachine:
    def __init__(self, number, program, side, rank, clock):
        self.number = number
        self.program = program
        self.side = side
        self.rank = rank
        self.arrived = clock
        self.starts = []
        self.acts = []
        self.position = None
        # The asked positions of the run by which a teller was satisfied, or None while it waits.
        self.asked = None

    def is_teller(self):
        return self.program[0] == "teller"


class PlainHouse:
    def __init__(self):
        self.clock = 0
        self.sets = {"left": set(), "right": set()}
        self.machines = []
        self.next_number = 0
        # All positions that tellers ever had, and all integers that were ever guarded.
        self.used = set()

    def arrive(self, program, side):
        machine = PlainMachine(self.next_number, program, side, len(self.machines), self.clock)
        self.next_number += 1
        self.machines.append(machine)
        if machine.is_teller():
            self.start(machine, None)
        else:
            machine.starts.append((self.clock, None))

    def start(self, teller, cause):
        teller.starts.append((self.clock, cause))
        teller.asked = None
        teller.position = 1 + max(self.used | self.sets["left"] | self.sets["right"], default=-1)
        self.used.add(teller.position)

    def withdraw(self, number):
        self.machines = [machine for machine in self.machines if machine.number != number]

    def guarded(self, machine, side):
        if not machine.is_teller():
            return []
        if machine.asked is None:
            return [machine.position] if side == OTHER[machine.side] else []
        return machine.asked if side == machine.side else []

    def guards(self, side):
        return sorted((integer, machine.number) for machine in self.machines for integer in self.guarded(machine, side))

    def barred(self, machine):
        return sorted({integer for integer, number in self.guards(machine.side) if number < machine.number})

    def is_satisfied(self, machine):
        if machine.is_teller():
            return machine.asked is not None
        listed = plain_list(machine.program, self.clock - machine.arrived)
        return any(integer in self.sets[machine.side] for step, integer in listed)

    def can_act(self, machine):
        """The set and the integer that the machine would add, or None."""
        if self.is_satisfied(machine):
            return None
        if machine.is_teller():
            age = self.clock - machine.starts[-1][0]
            done = plain_run(machine.program, machine.position, self.sets[machine.side], age)
            return (OTHER[machine.side], machine.position) if done[:2] == ("answered", 0) else None
        barred = self.barred(machine)
        for step, integer in plain_list(machine.program, self.clock - machine.arrived):
            if integer not in barred:
                return (machine.side, integer)
        return None

    def step(self):
        """The acts of one step: none, or one."""
        self.clock += 1
        for machine in self.machines:
            found = self.can_act(machine)
            if found is not None:
                self.act(machine, *found)
                return [(self.clock, machine.number, found[1])]
        return []

    def act(self, actor, side, integer):
        if actor.is_teller():
            age = self.clock - actor.starts[-1][0]
            actor.asked = plain_run(actor.program, actor.position, self.sets[actor.side], age)[5]
            self.used.update(actor.asked)
        self.sets[side].add(integer)
        actor.acts.append((self.clock, integer))
        for machine in self.machines:
            if machine.number > actor.number and machine.is_teller():
                self.start(machine, actor.number)

    def advance(self, many):
        acts = []
        for _ in range(many):
            acts += self.step()
        return acts

    def view(self):
        return (
            self.clock,
            [sorted(self.sets[side]) for side in SIDES],
            [self.guards(side) for side in SIDES],
            [
                (machine.number, machine.rank, self.is_satisfied(machine), machine.starts, machine.acts,
                 (machine.program[0], machine.program, machine.side,
                  machine.position if machine.is_teller() else self.barred(machine)))
                for machine in self.machines
            ],
        )


def view(house):
    return (
        house.clock(),
        [house.members(side) for side in SIDES],
        [house.guards(side) for side in SIDES],
        [
            (number, house.rank(number), house.is_satisfied(number), house.starts(number), house.acts(number),
             house.facts(number))
            for number in house.numbers()
        ],
    )


class HistoryTest(unittest.TestCase):
    def compare(self, house, plain):
        self.assertEqual(view(house), plain.view())

    def advance(self, house, plain, many, source):
        twin = house.twin()
        single = house.twin()
        acts = house.advance(many)
        self.assertEqual(plain.advance(many), acts)
        cut = source.randrange(many + 1)
        self.assertEqual(twin.advance(cut) + twin.advance(many - cut), acts)
        self.assertEqual([act for _ in range(many) for act in single.advance()], acts)
        self.assertEqual(house, twin)
        self.assertEqual(house, single)

    def settle(self, house, plain):
        clock = house.clock()
        acts = house.settle()
        if house.clock() - clock > 300:
            house.undo()
            return
        self.assertEqual(plain.advance(house.clock() - clock), acts)
        self.assertEqual(house.clock(), acts[-1][0] if acts else clock)
        self.assertIsNone(house.next_act())
        self.assertEqual(copy.deepcopy(plain).advance(30), [])
        self.check_rest(house)

    def check_rest(self, house):
        """At rest no teller decides the other set, and each endless list contains a member."""
        for number in house.numbers():
            kind, program, side, last = house.facts(number)
            members = house.members(side)
            if kind == "teller":
                done = run(program, last, members)
                right = done.answer == (1 if last in house.members(OTHER[side]) else 0)
                self.assertFalse(done.outcome == "answered" and right)
                self.assertEqual(house.is_satisfied(number), done.answer == 0)
            elif Listing(program).is_endless():
                self.assertIsNotNone(Listing(program).first_inside(members))

    def check_next_act(self, house, plain):
        act = house.next_act()
        ahead = copy.deepcopy(plain)
        found = []
        while not found and ahead.clock < plain.clock + 15:
            found = ahead.step()
        self.assertEqual(found, [act] if act is not None and act[0] <= plain.clock + 15 else [])

    def check_promises(self, house, before, acts):
        """The acts lead from one house to the other; check that guards hold and that acts are few."""
        for clock, number, integer in acts:
            before.advance(clock - before.clock() - 1)
            members = {side: before.members(side) for side in SIDES}
            guards = {side: before.guards(side) for side in SIDES}
            runs = {
                other: before.facts(other) for other in before.numbers() if other < number and before.is_satisfied(other)
            }
            self.assertEqual(before.advance(), [(clock, number, integer)])
            goal = [side for side in SIDES if before.members(side) == sorted(members[side] + [integer])]
            self.assertEqual(len(goal), 1)
            self.assertFalse([row for row in guards[goal[0]] if row[0] == integer and row[1] < number])
            for other, facts in runs.items():
                self.assertEqual(facts, before.facts(other))
        before.advance(house.clock() - before.clock())
        self.assertEqual(house, before)

    def live(self, source, deeds):
        """One history of a house and of a plain house."""
        house, plain = House(), PlainHouse()
        past = []
        for _ in range(deeds):
            choice = source.randrange(100)
            kept = (copy.deepcopy(plain), house.twin())
            many = len(house.history())
            if choice < 40:
                program, side = drawn_machine(source), source.choice(SIDES)
                if len(house) == 8:
                    with self.assertRaises(Full):
                        house.arrive(program, side=side)
                else:
                    self.assertEqual(house.arrive(program, side=side), plain.next_number)
                    plain.arrive(program, side)
            elif choice < 50 and len(house) > 0:
                number = source.choice(house.numbers())
                house.withdraw(number)
                plain.withdraw(number)
            elif choice < 85:
                self.advance(house, plain, source.choice((0, 1, 1, 2, 3, 5, 9, 14)), source)
            elif choice < 92:
                self.settle(house, plain)
            elif past:
                plain, twin = past.pop()
                house.undo()
                self.assertEqual(house, twin)
                self.assertEqual(house.history(), twin.history())
            if len(house.history()) > many:
                past.append(kept)
            self.compare(house, plain)
        self.check_next_act(house, plain)
        return house

    def test_histories(self):
        source = random.Random(2026)
        acts = 0
        for _ in range(400):
            house = self.live(source, 20)
            acts += sum(len(house.acts(number)) for number in house.numbers())
        self.assertGreater(acts, 1000)

    def test_guards_hold_and_acts_are_few(self):
        source = random.Random(19)
        for _ in range(150):
            house = House()
            done = []
            for _ in range(16):
                before = house.twin()
                if source.randrange(3) and len(house) < 8:
                    house.arrive(drawn_machine(source), side=source.choice(SIDES))
                elif source.randrange(4) == 0 and len(house):
                    house.withdraw(source.choice(house.numbers()))
                else:
                    acts = house.advance(source.randrange(20)) if source.randrange(3) else house.settle()
                    self.check_promises(house, before, acts)
                    done += acts
            for number in house.numbers():
                arrived = house.starts(number)[0][0]
                earlier = [act for act in done if act[1] < number and act[0] > arrived]
                many = len(house.acts(number))
                self.assertLessEqual(many, 1 + len(earlier))
                self.assertLessEqual(many, 2 ** house.rank(number))
                if house.facts(number)[0] == "collector":
                    self.assertLessEqual(many, 1)

    def test_two_houses_side_by_side(self):
        source = random.Random(77)
        pairs = [(House(), PlainHouse()), (House(), PlainHouse())]
        for _ in range(60):
            house, plain = source.choice(pairs)
            if source.randrange(3) == 0 and len(house) < 8:
                program, side = drawn_machine(source), source.choice(SIDES)
                house.arrive(program, side=side)
                plain.arrive(program, side)
            elif source.randrange(6) == 0 and len(house):
                number = source.choice(house.numbers())
                house.withdraw(number)
                plain.withdraw(number)
            else:
                self.advance(house, plain, source.randrange(6), source)
            for house, plain in pairs:
                self.compare(house, plain)


if __name__ == "__main__":
    unittest.main()
