"""The list of a collector, which may go on for ever."""

from neithertells.assembly import assemble
from neithertells.errors import BadProgram, BadSteps, TooMany
from neithertells.programs import is_integer_from, is_program
from neithertells.walks import Walk

MOST_LISTED = 1000


def list_parts(code):
    """Return the head, the cycle, the period and the shift of the list by these instructions."""
    walk = Walk(code)
    rows = []
    before = walk.earlier()
    instruction = walk.upcoming()
    while before is None and instruction is not None:
        walk.take(instruction)
        if instruction[0] == "list":
            rows.append((walk.taken, walk.counter + walk.worth(instruction[1])))
        before = walk.earlier()
        instruction = walk.upcoming()
    if before is None:
        return rows, [], 0, 0
    first, counter = before
    head = [row for row in rows if row[0] <= first]
    cycle = [row for row in rows if row[0] > first]
    return head, cycle, walk.taken - first, walk.counter - counter


def first_steps(rows):
    """Return the first step of each integer in a part of a list, in the order of the steps."""
    steps = {}
    for step, integer in rows:
        if integer not in steps:
            steps[integer] = step
    return steps


class Listing:
    """The list of a collector: its head, its cycle, and how the cycle goes on."""

    def __init__(self, program):
        if not is_program(program) or program[0] != "collector":
            raise BadProgram("this is not the program of a collector")
        head, cycle, period, shift = list_parts(assemble(program))
        self.head = head
        self.cycle = cycle
        self.period = period
        self.shift = shift
        # The methods read what stands below, so that changes to the lists above have no effect on them.
        self.kept_head = tuple(head)
        self.kept_cycle = tuple(cycle)
        self.head_steps = first_steps(head)
        self.cycle_steps = first_steps(cycle)
        self.families = {}
        for integer, step in self.cycle_steps.items():
            self.families.setdefault(self.family(integer), []).append((step, integer))

    def __eq__(self, other):
        return (
            isinstance(other, Listing)
            and self.head == other.head
            and self.cycle == other.cycle
            and self.period == other.period
            and self.shift == other.shift
        )

    def is_endless(self):
        """Tell whether ever greater integers are listed."""
        return len(self.kept_cycle) > 0 and self.shift > 0

    def until(self, age):
        """Return the part of the list up to this step."""
        if not is_integer_from(age, 0):
            raise BadSteps("the age is not an integer from 0 on")
        rows = [row for row in self.kept_head if row[0] <= age]
        if len(rows) + sum([self.rounds_until(step, age) for step, integer in self.kept_cycle]) > MOST_LISTED:
            raise TooMany(f"more than {MOST_LISTED} tuples are listed up to this step")
        for step, integer in self.kept_cycle:
            for times in range(self.rounds_until(step, age)):
                rows.append((step + times * self.period, integer + times * self.shift))
        return sorted(rows)

    def rounds_until(self, step, age):
        """Return how often, up to an age, the tuple of the cycle that has this step is listed."""
        return 0 if age < step else (age - step) // self.period + 1

    def first_outside(self, barred):
        """Return the first tuple whose integer is not in a list of integers, or None."""
        missing = {integer: True for integer in barred}
        for integer, step in self.head_steps.items():
            if integer not in missing:
                return (step, integer)
        times = 0
        # One round is enough if the same integers are listed again; otherwise the barred ones are left behind.
        while times == 0 or self.is_endless():
            for integer, step in self.cycle_steps.items():
                if integer + times * self.shift not in missing:
                    return (step + times * self.period, integer + times * self.shift)
            times += 1
        return None

    def first_inside(self, members):
        """Return the first tuple whose integer is in a list of integers, or None."""
        rows = [(self.first_step(member), member) for member in members]
        return min([row for row in rows if row[0] is not None], default=None)

    def first_step(self, integer):
        """Return the first step at which this integer is listed, or None."""
        if integer in self.head_steps:
            return self.head_steps[integer]
        steps = []
        for step, least in self.families.get(self.family(integer), []):
            if integer == least:
                steps.append(step)
            elif integer > least:
                steps.append(step + (integer - least) // self.shift * self.period)
        return min(steps, default=None)

    def has(self, step, integer):
        """Tell whether the list contains this tuple."""
        if (step, integer) in self.kept_head:
            return True
        for first, least in self.kept_cycle:
            times = (step - first) // self.period
            if times >= 0 and (step, integer) == (first + times * self.period, least + times * self.shift):
                return True
        return False

    def family(self, integer):
        """Return what the integers have in common that the same tuple of the cycle lists, round after round."""
        return integer % self.shift if self.shift > 0 else integer
