"""How often machines may act, and programs that act as often as they may."""

from neithertells.errors import BadSteps
from neithertells.programs import is_integer_from_to

MOST_TELLERS = 8


def most_acts(kinds):
    """Return the greatest numbers of acts of machines of these kinds, in the order of arrival."""
    numbers = []
    for kind in kinds:
        numbers.append(1 if kind == "collector" else 1 + sum(numbers))
    return numbers


def busiest(many):
    """Return the programs of so many tellers that act as often as they may if they arrive in this order."""
    if not is_integer_from_to(many, 1, MOST_TELLERS):
        raise BadSteps("this is not a number of tellers from 1 to 8")
    programs = []
    length = 1
    # Each teller acts directly after the later ones have all come to rest, so it takes twice as long as the next one.
    for place in range(many):
        programs.append(patient_teller(length))
        length *= 2
    return programs[::-1]


def patient_teller(length):
    """Return the program of a teller that answers 0 after this number of steps."""
    answer = ("answer", 0)
    return ("teller", (answer,) if length == 1 else (("wait", length - 1), answer))
