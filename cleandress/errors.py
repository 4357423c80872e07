"""The errors that the package raises.

An error that keeps a value does not put it into a message: the value can be of any kind,
also one that cannot be written out.
"""


class DressError(ValueError):
    """What a value of the package cannot be made of, or be used for."""


class InvalidText(DressError):
    """No sign, no text, no path, or no tuple of signs."""


class InvalidHole(DressError):
    """No hole, or no runs of one."""


class InvalidDress(DressError):
    """No dress, or nothing to make one of."""


class InvalidCleaner(DressError):
    """No cleaner, or nothing to make one of."""


class InvalidRoad(DressError):
    """No road."""


class InvalidStanding(DressError):
    """No standing of a road."""


class InvalidLines(DressError):
    """No lines, or nothing to make lines of."""


class InvalidOperation(DressError):
    """Something that cannot be done with these values."""


class ParseError(DressError):
    """A line of a text that cannot be read."""

    def __init__(self, number):
        self.number = number


class InvalidNumber(IndexError):
    """No number, or one beyond its bounds."""

    def __init__(self, value):
        self.value = value


class UnknownName(KeyError):
    """A name under which there is nothing."""

    def __init__(self, name):
        self.name = name


class InvalidFilling(LookupError):
    """An index at which there is no filling of the hole that is due."""

    def __init__(self, index):
        self.index = index


class NothingToUndo(LookupError):
    """More calls to undo or to do again than there are."""

    def __init__(self, many):
        self.many = many


class Refused(ArithmeticError):
    """A text that a cleaner refuses."""

    def __init__(self, text):
        self.text = text


class TooMany(OverflowError):
    """More than a limit allows."""

    def __init__(self, limit):
        self.limit = limit
