"""A run by the instructions of a program, as far as tellers and collectors share it."""

from neithertells.programs import GREATEST_VALUE


def cost(instruction):
    """Return the number of steps that an instruction takes."""
    return instruction[1] if instruction[0] == "wait" else 1


class Walk:
    """A run on its way: the number of the next instruction, the variables, the counter, and the states so far."""

    def __init__(self, code):
        self.code = code
        self.at = 0
        self.held = {"a": 0, "b": 0}
        self.counter = 0
        self.taken = 0
        self.seen = {}

    def upcoming(self):
        """Return the next instruction, or None if there is none."""
        return self.code[self.at] if self.at < len(self.code) else None

    def earlier(self):
        """Return the steps and the counter at which this state occurred before; if it did not, note it, and None."""
        state = (self.at, self.held["a"], self.held["b"])
        before = self.seen.get(state)
        if before is None:
            self.seen[state] = (self.taken, self.counter)
        return before

    def worth(self, term):
        """Return the value of a term."""
        return self.held[term] if isinstance(term, str) else term

    def is_true(self, condition):
        """Tell whether a condition is true."""
        variable, sign, term = condition
        if sign == "==":
            return self.held[variable] == self.worth(term)
        if sign == "!=":
            return self.held[variable] != self.worth(term)
        return self.held[variable] < self.worth(term)

    def take(self, instruction):
        """Take the steps of the next instruction, and do what does not need more than the run itself."""
        self.taken += cost(instruction)
        self.at = self.follower(instruction)
        word = instruction[0]
        if word == "set":
            self.held[instruction[1]] = instruction[2]
        elif word == "add":
            variable, term = instruction[1:]
            self.held[variable] = (self.held[variable] + self.worth(term)) % (GREATEST_VALUE + 1)
        elif word == "grow":
            self.counter += self.worth(instruction[1])

    def follower(self, instruction):
        """Return the number of the instruction with which the run continues behind the next one."""
        if instruction[0] == "jump":
            return instruction[1]
        if instruction[0] == "test" and not self.is_true(instruction[1]):
            return instruction[2]
        return self.at + 1
