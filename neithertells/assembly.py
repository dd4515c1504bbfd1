"""The instructions that a program is assembled into."""

from neithertells.errors import BadProgram
from neithertells.programs import is_program


def assemble(program):
    """Return the instructions of a program."""
    if not is_program(program):
        raise BadProgram("this is not a program")
    return body_code(program[1], 0)


def body_code(body, start):
    """Return the instructions of a body, of which the first one gets the number `start`."""
    code = []
    for statement in body:
        at = start + len(code)
        code.extend(statement_code(statement, at))
    return code


def statement_code(statement, start):
    """Return the instructions of a statement, of which the first one gets the number `start`."""
    if statement[0] == "while":
        return while_code(statement, start)
    if statement[0] == "if":
        return if_code(statement, start)
    return [statement]


def while_code(statement, start):
    """Return the instructions of a while."""
    condition, body = statement[1:]
    inside = body_code(body, start + 1)
    behind = start + 1 + len(inside) + 1
    return [("test", condition, behind), *inside, ("jump", start)]


def if_code(statement, start):
    """Return the instructions of an if."""
    condition, first, second = statement[1:]
    inside = body_code(first, start + 1)
    behind = start + 1 + len(inside)
    if len(second) == 0:
        return [("test", condition, behind), *inside]
    # One jump stands between the two bodies.
    otherwise = body_code(second, behind + 1)
    end = behind + 1 + len(otherwise)
    return [("test", condition, behind + 1), *inside, ("jump", end), *otherwise]
