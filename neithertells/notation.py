"""The text of a program, written and read."""

from neithertells.errors import BadProgram, BadText
from neithertells.programs import BODIES, KINDS, LONGEST_WAIT, MOST_DEPTH, MOST_STATEMENTS
from neithertells.programs import bodies_of, is_condition, is_plain_statement, is_program


def show(program):
    """Return the text of a program."""
    if not is_program(program):
        raise BadProgram("this is not a program")
    kind, body = program
    return "\n".join([kind] + body_lines(body))


def body_lines(body):
    """Return the lines of a body."""
    lines = []
    for statement in body:
        lines.extend(statement_lines(statement))
    return lines


def statement_lines(statement):
    """Return the lines of a statement, those of its bodies included."""
    bodies = bodies_of(statement)
    if len(bodies) == 0:
        return [plain_line(statement)]
    word, condition = statement[:2]
    lines = [joined((word, *condition))]
    lines.extend(body_lines(bodies[0]))
    if len(bodies) == 2 and len(bodies[1]) > 0:
        lines.append("else")
        lines.extend(body_lines(bodies[1]))
    lines.append("end")
    return lines


def plain_line(statement):
    """Return the line of a statement without bodies."""
    if statement[0] != "ask":
        return joined(statement)
    word, sign, term, variable = statement
    return joined((word, term if sign == "=" else f"x{sign}{term}", variable))


def joined(parts):
    """Return the parts of a line as its text."""
    return " ".join([str(part) for part in parts])


def read(text):
    """Return the program whose text this is."""
    if not isinstance(text, str):
        raise BadText(None)
    lines = text.split("\n")
    if lines[0] not in KINDS:
        raise BadText(0)
    reader = Reader(lines[0])
    for at, line in enumerate(lines[1:], start=1):
        parts = line_parts(line)
        if not reader.allows(parts):
            raise BadText(at)
        reader.take(parts)
    if not reader.is_complete():
        raise BadText(len(lines))
    return reader.as_program()


def line_parts(line):
    """Return what a line says: a plain statement, an if or a while without its bodies, or anything else in a tuple."""
    words = line.split(" ")
    if words[0] == "ask":
        return ask_parts(words)
    parts = [number_or_word(word) for word in words[1:]]
    if words[0] in BODIES:
        return (words[0], tuple(parts))
    return (words[0], *parts)


def ask_parts(words):
    """Return the ask that these words say; an empty tuple if they are too few or too many."""
    if len(words) != 3:
        return ()
    position, variable = words[1], words[2]
    if position.startswith("x+") or position.startswith("x-"):
        return ("ask", position[1], number_or_word(position[2:]), variable)
    return ("ask", "=", number_or_word(position), variable)


def number_or_word(word):
    """Return the integer that a word says, or the word itself if it says none that a program may contain."""
    return int(word) if is_decimal(word, len(str(LONGEST_WAIT))) else word


def is_decimal(word, most):
    """Tell whether a word is a decimal integer of at most so many digits, without leading zeros."""
    # Python refuses to convert very long numbers, so the length is checked before the value.
    if not word.isascii() or not word.isdigit() or len(word) > most:
        return False
    return word == "0" or not word.startswith("0")


class Block:
    """An if or a while whose end has not been read, or the outer body of a program."""

    def __init__(self, word, condition):
        self.word = word
        self.condition = condition
        self.bodies = [[]]

    def may_branch(self):
        """Tell whether this is an if that has had no else."""
        return self.word == "if" and len(self.bodies) == 1

    def may_end(self):
        """Tell whether an end may stand here: not in the outer body, and not directly behind an else."""
        return self.word in BODIES and (len(self.bodies) == 1 or len(self.bodies[1]) > 0)

    def as_statement(self):
        """Return the statement that is read completely."""
        bodies = [tuple(body) for body in self.bodies]
        if self.may_branch():
            bodies.append(())
        return (self.word, self.condition, *bodies)


class Reader:
    """Takes the lines behind the first line of a program's text, one after the other."""

    def __init__(self, kind):
        self.kind = kind
        self.many = 0
        self.blocks = [Block("", ())]

    def has_room(self):
        """Tell whether a statement may stand in the innermost block."""
        return self.many < MOST_STATEMENTS and len(self.blocks) <= MOST_DEPTH

    def allows(self, parts):
        """Tell whether the next line of some program says this."""
        block = self.blocks[-1]
        if parts == ("end",):
            return block.may_end()
        if not self.has_room():
            return False
        if parts == ("else",):
            return block.may_branch()
        return is_opening(parts) or is_plain_statement(parts, self.kind)

    def take(self, parts):
        """Take a line that is allowed."""
        block = self.blocks[-1]
        if parts == ("end",):
            self.blocks.pop()
            self.blocks[-1].bodies[-1].append(block.as_statement())
        elif parts == ("else",):
            block.bodies.append([])
        else:
            self.many += 1
            if is_opening(parts):
                self.blocks.append(Block(parts[0], parts[1]))
            else:
                block.bodies[-1].append(parts)

    def is_complete(self):
        """Tell whether the text may end here."""
        return len(self.blocks) == 1

    def as_program(self):
        """Return the program that is read completely."""
        return (self.kind, tuple(self.blocks[0].bodies[0]))


def is_opening(parts):
    """Tell whether the parts of a line are the word of a statement with bodies and its condition."""
    return len(parts) == 2 and parts[0] in BODIES and is_condition(parts[1])
