"""The machines of a house. They are never changed: what happens to a machine makes a new one."""

from neithertells.assembly import assemble
from neithertells.listings import Listing
from neithertells.runs import teller_run

OTHER_SIDE = {"left": "right", "right": "left"}


class Badge:
    """What a machine gets when it arrives, and always keeps."""

    def __init__(self, number, program, side, level):
        self.number = number
        self.program = program
        self.side = side
        self.level = level


def new_machine(badge, now, position, members):
    """Return the machine that arrives at a clock; the position is for a teller, the members are those of its side."""
    begun = ((now, None),)
    if badge.program[0] == "teller":
        code = assemble(badge.program)
        return Teller(badge, code, begun, (), position, teller_run(code, position, members), False)
    listing = Listing(badge.program)
    found = listing.first_inside(members)
    return Collector(badge, listing, begun, (), None if found is None else found[0])


class Teller:
    """A teller with its starts, its acts, its position, its run on the present members, and whether it is satisfied."""

    def __init__(self, badge, code, begun, done, position, trial, served):
        self.badge = badge
        self.code = code
        self.begun = begun
        self.done = done
        self.position = position
        self.trial = trial
        self.served = served

    def is_satisfied(self, now):
        """Tell whether the teller is satisfied; the clock matters to collectors only."""
        return self.served

    def guarded(self, side):
        """Return the list of the integers that the teller guards in a set."""
        if self.served:
            return self.trial.asked if side == self.badge.side else []
        return [self.position] if side != self.badge.side else []

    def goal(self):
        """Return the set to which the teller adds its position."""
        return OTHER_SIDE[self.badge.side]

    def ready(self, now, barred):
        """Return the clock of its next act and the integer, if no other machine acts before, or None."""
        if self.served or self.trial.answer != 0:
            return None
        return (max(now + 1, self.begun[-1][0] + self.trial.length), self.position)

    def acted(self, now, integer):
        """Return the teller directly after its act."""
        done = (*self.done, (now, integer))
        return Teller(self.badge, self.code, self.begun, done, self.position, self.trial, True)

    def started(self, now, cause, position, members):
        """Return the teller when it starts again because of a machine that acted."""
        begun = (*self.begun, (now, cause))
        trial = teller_run(self.code, position, members)
        return Teller(self.badge, self.code, begun, self.done, position, trial, False)

    def told(self, side, integer, members):
        """Return the teller when an integer has become one of the members of a set."""
        # The run of a satisfied teller is guarded, and a waiting one does not see what it does not ask about.
        if self.served or side != self.badge.side or integer not in self.trial.asked:
            return self
        trial = teller_run(self.code, self.position, members)
        return Teller(self.badge, self.code, self.begun, self.done, self.position, trial, False)


class Collector:
    """A collector with its start, its acts, and the first step at which it lists a member of its side, or None."""

    def __init__(self, badge, listing, begun, done, met):
        self.badge = badge
        self.listing = listing
        self.begun = begun
        self.done = done
        self.met = met

    def is_satisfied(self, now):
        """Tell whether the collector has listed a member of its side."""
        return self.met is not None and self.begun[0][0] + self.met <= now

    def guarded(self, side):
        """Return the list of the integers that the collector guards in a set."""
        return []

    def goal(self):
        """Return the set to which the collector adds an integer."""
        return self.badge.side

    def ready(self, now, barred):
        """Return the clock of its next act and the integer, if no other machine acts before, or None."""
        found = self.listing.first_outside(barred)
        if found is None:
            return None
        clock = max(now + 1, self.begun[0][0] + found[0])
        # A step may satisfy the collector before it can act.
        return None if self.is_satisfied(clock) else (clock, found[1])

    def acted(self, now, integer):
        """Return the collector directly after its act, as far as it is not told of the new member."""
        return Collector(self.badge, self.listing, self.begun, (*self.done, (now, integer)), self.met)

    def told(self, side, integer, members):
        """Return the collector when an integer has become one of the members of a set."""
        step = self.listing.first_step(integer) if side == self.badge.side else None
        if step is None or (self.met is not None and self.met <= step):
            return self
        return Collector(self.badge, self.listing, self.begun, self.done, step)
