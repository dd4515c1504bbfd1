"""The looker, who tells whether a paper holds."""

from neithertells.listings import Listing
from neithertells.papers import spent_paper, teller_paper
from neithertells.programs import is_integer_from


def holds(paper, facts, left, right):
    """Tell whether a thing is a paper that holds for the facts of a machine and the members of both sets."""
    kind, program, side, last = facts
    members, others = (left, right) if side == "left" else (right, left)
    if kind == "teller":
        return is_same(paper, teller_paper(program, last, members, others))
    listing = Listing(program)
    return is_listed(paper, listing, members) or is_same(paper, spent_paper(listing, last))


def is_listed(thing, listing, members):
    """Tell whether a thing is a paper that names a tuple of a list, with a member."""
    if not isinstance(thing, tuple) or len(thing) != 3 or thing[0] != "listed":
        return False
    step, integer = thing[1:]
    if not is_integer_from(step, 0) or not is_integer_from(integer, 0):
        return False
    return integer in members and listing.has(step, integer)


def is_same(thing, part):
    """Tell whether a thing is of the same kind as a paper or a part of one, and equal to it."""
    if isinstance(part, tuple):
        return isinstance(thing, tuple) and are_same(thing, part)
    if isinstance(part, list):
        return isinstance(thing, list) and are_same(thing, part)
    if isinstance(part, int):
        # True equals 1, but it is not an integer.
        return is_integer_from(thing, 0) and thing == part
    return isinstance(thing, str) and thing == part


def are_same(things, parts):
    """Tell whether there are as many things as parts, each the same as its part."""
    return len(things) == len(parts) and all([is_same(thing, part) for thing, part in zip(things, parts)])
