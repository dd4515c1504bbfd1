"""The desk: a house that takes rows of text and answers in texts."""

from neithertells.errors import BadRow, BadText
from neithertells.house import SIDES, House
from neithertells.notation import is_decimal, read
from neithertells.papers import paper_of

MOST_DIGITS = 61


def check_alone(words):
    """Raise BadRow if there are words where none may stand."""
    if len(words) > 0:
        raise BadRow("there are too many words in this row")


def side_in(words):
    """Return the side that these words are."""
    if len(words) != 1 or words[0] not in SIDES:
        raise BadRow("there is no side in this row, or more than a side")
    return words[0]


def number_in(words):
    """Return the integer that these words are."""
    if len(words) != 1 or not is_decimal(words[0], MOST_DIGITS):
        raise BadRow("there is no number in this row, or more than a number")
    return int(words[0])


def program_in(words):
    """Return the program whose text these words are."""
    try:
        return read(" ".join(words).replace("; ", "\n"))
    except BadText:
        raise BadRow("there is no text of a program in this row") from None


def acts_text(acts):
    """Return the text of a list of acts."""
    return listed_text([f"{clock}:{number}:{integer}" for clock, number, integer in acts])


def listed_text(things):
    """Return the text of a list of things."""
    return " ".join([str(thing) for thing in things]) if len(things) > 0 else "none"


def say_arrive(house, words):
    """Let a machine arrive, and return its number."""
    side = side_in(words[:1])
    program = program_in(words[1:])
    return str(house.arrive(program, side=side))


def say_withdraw(house, words):
    """Withdraw a machine."""
    house.withdraw(number_in(words))
    return "ok"


def say_undo(house, words):
    """Take back the last deed, and return its word."""
    check_alone(words)
    return house.undo()[0]


def say_advance(house, words):
    """Take steps, and return the acts."""
    return acts_text(house.advance(number_in(words)))


def say_settle(house, words):
    """Advance to the last act, and return the acts."""
    check_alone(words)
    return acts_text(house.settle())


def say_clock(house, words):
    """Return the clock."""
    check_alone(words)
    return str(house.clock())


def say_members(house, words):
    """Return the members of a set."""
    return listed_text(house.members(side_in(words)))


def say_state(house, words):
    """Return whether a machine is waiting or satisfied."""
    return "satisfied" if house.is_satisfied(number_in(words)) else "waiting"


def say_paper(house, words):
    """Return the word of the paper of a machine."""
    return paper_of(house, number_in(words))[0]


# What a desk does for the first word of a row, with the words behind it.
ANSWERS = {
    "arrive": say_arrive,
    "withdraw": say_withdraw,
    "undo": say_undo,
    "advance": say_advance,
    "settle": say_settle,
    "clock": say_clock,
    "members": say_members,
    "state": say_state,
    "paper": say_paper,
}


def words_of(row):
    """Return the words of a row, the first of which a desk knows."""
    # A newline would stand in the text of a program, but not in a row.
    if not isinstance(row, str) or "\n" in row:
        raise BadRow("this is not a row of text")
    words = row.split(" ")
    if words[0] not in ANSWERS:
        raise BadRow("a row does not begin so")
    return words


class Desk:
    """A desk with its house."""

    def __init__(self):
        self.house = House()

    def say(self, row):
        """Do what a row says, and return the answer."""
        words = words_of(row)
        answer = ANSWERS[words[0]]
        return answer(self.house, words[1:])
