"""Histories, done once more at a new house."""

from neithertells.errors import BadHistory, Full, HouseError, NoMachine
from neithertells.house import House
from neithertells.notation import read

# The words of the deeds, and how many parts each deed has, its word included.
PARTS = {"arrive": 3, "withdraw": 2, "advance": 2}


def replay(history):
    """Return a new house at which the deeds of a history have been done."""
    if not isinstance(history, list):
        raise BadHistory(None)
    house = House()
    for index, deed in enumerate(history):
        if not is_deed(deed) or not is_done(house, deed):
            raise BadHistory(index)
    return house


def is_deed(thing):
    """Tell whether a thing is a tuple with the word of a deed and as many parts as the deed has."""
    if not isinstance(thing, tuple) or len(thing) == 0 or not isinstance(thing[0], str):
        return False
    return len(thing) == PARTS.get(thing[0])


def is_done(house, deed):
    """Do a deed if it can be done, and tell whether it was."""
    try:
        do(house, deed)
    except (HouseError, NoMachine, Full):
        return False
    return True


def do(house, deed):
    """Do a deed."""
    if deed[0] == "arrive":
        house.arrive(read(deed[1]), side=deed[2])
    elif deed[0] == "withdraw":
        house.withdraw(deed[1])
    else:
        house.advance(deed[1])
