"""The run of a teller at a position, on a set."""

from neithertells.assembly import assemble
from neithertells.errors import BadProgram, BadSteps
from neithertells.programs import is_integer_from, is_program
from neithertells.walks import Walk, cost


class Run:
    """What came of a run: its outcome, and the values that apply to it."""

    def __init__(self, outcome, asked, answer=None, length=None, first=None, second=None):
        self.outcome = outcome
        self.answer = answer
        self.length = length
        self.first = first
        self.second = second
        self.asked = list(asked)

    def __eq__(self, other):
        return (
            isinstance(other, Run)
            and self.outcome == other.outcome
            and self.answer == other.answer
            and self.length == other.length
            and self.first == other.first
            and self.second == other.second
            and self.asked == other.asked
        )


def run(program, position, members, *, limit=None):
    """Return the run of a teller at its position, on a set with these members."""
    if not is_program(program) or program[0] != "teller":
        raise BadProgram("this is not the program of a teller")
    if limit is not None and not is_integer_from(limit, 0):
        raise BadSteps("the limit is neither None nor an integer from 0 on")
    return teller_run(assemble(program), position, members, limit)


def teller_run(code, position, members, limit=None):
    """Return the run by these instructions."""
    walk = TellerWalk(code, position, members)
    while True:
        before = walk.earlier()
        if before is not None:
            return repeated(walk, before[0], limit)
        instruction = walk.upcoming()
        if instruction is None:
            return Run("ended", walk.asked_places(), length=walk.taken)
        if limit is not None and walk.taken + cost(instruction) > limit:
            return Run("running", walk.asked_places())
        walk.take(instruction)
        if instruction[0] == "answer":
            return Run("answered", walk.asked_places(), answer=instruction[1], length=walk.taken)
        if instruction[0] == "ask":
            walk.ask(instruction)


def repeated(walk, first, limit):
    """Return the run that has come to a state again, for the first time."""
    # Such a run never ends, and it asks nothing new, so a limit that it would reach later changes nothing more.
    if limit is not None:
        return Run("running", walk.asked_places())
    return Run("silent", walk.asked_places(), first=first, second=walk.taken)


class TellerWalk(Walk):
    """The run of a teller on its way, at its position, on a set."""

    def __init__(self, code, position, members):
        Walk.__init__(self, code)
        self.position = position
        self.present = {member: True for member in members}
        self.questions = {}

    def place_of(self, sign, term):
        """Return the position that an ask is about."""
        if sign == "+":
            return self.position + self.worth(term)
        if sign == "-":
            return self.position - self.worth(term)
        return self.worth(term)

    def ask(self, instruction):
        """Do an ask: its variable gets the result."""
        sign, term, variable = instruction[1:]
        place = self.place_of(sign, term)
        if place >= 0:
            self.questions[place] = True
        self.held[variable] = 1 if place >= 0 and place in self.present else 0

    def asked_places(self):
        """Return the ascending list of the positions from 0 on that were asked about."""
        return sorted(list(self.questions))
