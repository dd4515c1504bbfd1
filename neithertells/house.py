"""The house: two sets, and the machines that it makes wrong or serves."""

from neithertells.errors import BadProgram, BadSide, BadSteps, Busy, Full, NoMachine, NothingDone
from neithertells.machines import Teller
from neithertells.notation import show
from neithertells.programs import is_integer_from, is_integer_from_to, is_program
from neithertells.standing import empty_standing

SIDES = ("left", "right")
MOST_MACHINES = 8
MOST_STEPS = 10 ** 60


def check_side(side):
    """Raise BadSide for what is not a side."""
    if side not in SIDES:
        raise BadSide("a side is left or right")


class House:
    """A house with its clock, its two sets, its machines and its history."""

    def __init__(self):
        self.standing = empty_standing()
        # The deeds of the history, and how the house stood before each of them.
        self.deeds = []
        self.past = []
        self.busy = False

    def __eq__(self, other):
        return isinstance(other, House) and self.standing.sight() == other.standing.sight()

    def __len__(self):
        return len(self.standing.machines)

    def __repr__(self):
        return f"House(clock={self.standing.now}, machines={len(self.standing.machines)})"

    def arrive(self, program, *, side):
        """Let a machine arrive, and return its number."""
        if not is_program(program):
            raise BadProgram("this is not a program")
        check_side(side)
        self.check_free()
        if len(self.standing.machines) >= MOST_MACHINES:
            raise Full(MOST_MACHINES)
        number = self.standing.ahead
        self.keep(("arrive", show(program), side), self.standing.with_arrival(program, side))
        return number

    def withdraw(self, number):
        """Withdraw a machine."""
        self.machine_of(number)
        self.check_free()
        self.keep(("withdraw", number), self.standing.without(number))

    def advance(self, many=1, *, watch=None):
        """Take so many steps, and return the acts."""
        if not is_integer_from_to(many, 0, MOST_STEPS):
            raise BadSteps("this is not a number of steps from 0 to 10 ** 60")
        self.check_free()
        return self.go_on(self.standing.now + many, watch)

    def settle(self, *, watch=None):
        """Advance to the last act that can ever happen, and return the acts."""
        self.check_free()
        return self.go_on(None, watch)

    def go_on(self, end, watch):
        """Advance to a clock, or to the last act if it is None, and return the acts."""
        before = self.standing
        self.busy = True
        try:
            acts = self.acts_until(end, watch)
        finally:
            # If the watch raises an error, the house is as it was before.
            after = self.standing
            self.standing = before
            self.busy = False
        if end is not None:
            after = after.at_clock(end)
        self.keep(("advance", after.now - before.now), after)
        return acts

    def acts_until(self, end, watch):
        """Do the acts up to a clock, or all acts if it is None, and return them."""
        acts = []
        act = self.standing.next_act()
        while act is not None and (end is None or act[0] <= end):
            self.standing = self.standing.after(act)
            acts.append(act)
            if watch is not None:
                watch(act)
            act = self.standing.next_act()
        return acts

    def next_act(self):
        """Return the next act if nothing arrives or is withdrawn, or None."""
        return self.standing.next_act()

    def clock(self):
        """Return the clock."""
        return self.standing.now

    def members(self, side):
        """Return the ascending list of the members of a set."""
        check_side(side)
        return list(self.standing.sets[side])

    def guards(self, side):
        """Return the sorted list of the guarded integers of a set, each with the number of the machine."""
        check_side(side)
        return self.standing.guards(side)

    def numbers(self):
        """Return the ascending list of the numbers of the machines present."""
        return [machine.badge.number for machine in self.standing.machines]

    def rank(self, number):
        """Return how many machines were present when a machine arrived."""
        return self.machine_of(number).badge.level

    def is_satisfied(self, number):
        """Tell whether a machine is satisfied."""
        return self.machine_of(number).is_satisfied(self.standing.now)

    def starts(self, number):
        """Return the list of the starts of a machine, each with its clock and its cause."""
        return list(self.machine_of(number).begun)

    def acts(self, number):
        """Return the list of the acts of a machine, each with its clock and its integer."""
        return list(self.machine_of(number).done)

    def facts(self, number):
        """Return the facts of a machine, which a paper is held against."""
        machine = self.machine_of(number)
        kind = machine.badge.program[0]
        last = machine.position if isinstance(machine, Teller) else self.standing.barred(machine)
        return (kind, machine.badge.program, machine.badge.side, last)

    def history(self):
        """Return the list of the deeds."""
        return list(self.deeds)

    def undo(self):
        """Take back the last deed, and return it."""
        self.check_free()
        if len(self.deeds) == 0:
            raise NothingDone("the history is empty")
        self.standing = self.past.pop()
        return self.deeds.pop()

    def twin(self):
        """Return a house that is equal, with the same history."""
        self.check_free()
        other = House()
        other.standing = self.standing
        other.deeds = list(self.deeds)
        other.past = list(self.past)
        return other

    def machine_of(self, number):
        """Return the machine present that has this number."""
        if is_integer_from(number, 0):
            for machine in self.standing.machines:
                if machine.badge.number == number:
                    return machine
        raise NoMachine(number)

    def check_free(self):
        """Raise Busy while a watch is called."""
        if self.busy:
            raise Busy("the house is in the middle of a call")

    def keep(self, deed, standing):
        """Keep a deed in the history; the house stands so after it."""
        self.past.append(self.standing)
        self.deeds.append(deed)
        self.standing = standing
