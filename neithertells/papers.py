"""Papers: how the machines of a house at rest were defeated or served."""

from neithertells.errors import Unsettled
from neithertells.listings import Listing
from neithertells.machines import OTHER_SIDE
from neithertells.runs import run


def paper_of(house, number):
    """Return the paper of a machine of a house that is at rest."""
    kind, program, side, last = house.facts(number)
    if house.next_act() is not None:
        raise Unsettled("the house can still act")
    members = house.members(side)
    if kind == "teller":
        return teller_paper(program, last, members, house.members(OTHER_SIDE[side]))
    listing = Listing(program)
    found = listing.first_inside(members)
    return spent_paper(listing, last) if found is None else ("listed", *found)


def teller_paper(program, position, members, others):
    """Return the only paper that can hold for a teller, or None; the others are the members of its other set."""
    done = run(program, position, members)
    if done.outcome == "silent":
        return ("silent", done.first, done.second, done.asked)
    if done.outcome == "ended":
        return ("ended", done.length, done.asked)
    # A teller that answers rightly is not defeated, so it has no paper.
    if done.answer == 0 and position in others:
        return ("member", done.length, done.asked)
    if done.answer == 1 and position not in others:
        return ("missing", done.length, done.asked)
    return None


def spent_paper(listing, barred):
    """Return the paper of a list whose integers are all barred, or None."""
    # An endless list leaves the barred integers behind, so it never gets this paper.
    if listing.first_outside(barred) is not None:
        return None
    return ("spent", sorted({integer for step, integer in [*listing.head, *listing.cycle]}))
