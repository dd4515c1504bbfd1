"""The errors that the modules of this package raise."""


def detached(thing):
    """Return a copy of a thing that later changes to its lists do not reach."""
    if isinstance(thing, list):
        return [detached(part) for part in thing]
    if isinstance(thing, tuple):
        return tuple([detached(part) for part in thing])
    return thing


class HouseError(ValueError):
    """The base of the errors about arguments of a wrong form."""


class BadProgram(HouseError):
    """The argument is not a program."""


class BadText(HouseError):
    """The argument is not the text of a program; `line` is the index of the first bad line, or None."""

    def __init__(self, line=None):
        HouseError.__init__(self, f"this is not the text of a program (line {line})")
        self.line = line


class BadSide(HouseError):
    """The argument is not a side."""


class BadSteps(HouseError):
    """The argument is not a number of steps that may be passed."""


class BadHistory(HouseError):
    """The argument is not a history; `index` is the index of the first bad deed, or None."""

    def __init__(self, index=None):
        HouseError.__init__(self, f"this is not a history (index {index})")
        self.index = index


class BadRow(HouseError):
    """The argument is not a row that a desk takes."""


class NoMachine(LookupError):
    """The argument is not the number of a machine present; `number` is the argument."""

    def __init__(self, number):
        LookupError.__init__(self, "no machine present has this number")
        # The argument may be a list, and no argument is kept.
        self.number = detached(number)


class Full(OverflowError):
    """No further machine may arrive; `most` is the greatest number of machines present."""

    def __init__(self, most=8):
        OverflowError.__init__(self, f"{most} machines are present already")
        self.most = most


class TooMany(OverflowError):
    """The result would be too long."""


class Busy(RuntimeError):
    """The house is in the middle of a call."""


class Unsettled(RuntimeError):
    """The house can still act."""


class NothingDone(IndexError):
    """The history is empty."""
