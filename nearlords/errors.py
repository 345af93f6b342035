"""The errors of this package."""


class Refused(ValueError):
    """What all errors of this package stand under; what tells what is bad."""

    def __init__(self, what):
        self.what = what


class BadSize(Refused):
    """A number of places or of rows that is too small or too great."""


class BadPair(Refused):
    """A pair that does not fit."""


class NotOrder(Refused):
    """A pair for which an order does not hold."""


class BadRank(Refused):
    """A number or a row that gives no rank."""


class BadPlace(Refused):
    """A number that is no place where a place is due."""


class BadParent(Refused):
    """A place whose parent is none."""


class Round(Refused):
    """A place from which one goes round."""


class BadDeed(Refused):
    """A deed that is refused."""


class BadRow(Refused):
    """A row that is refused."""


class BadCode(Refused):
    """A row of numbers that is no code."""


class BadCount(Refused):
    """A number or a count that is out of bounds."""


class NotJoined(Refused):
    """Houses of unlike classes where one class is due."""


class Joined(Refused):
    """Houses of one class where unlike classes are due."""


class Unlike(Refused):
    """Things that do not fit beside each other."""


class IsLord(Refused):
    """A place that may not go, as it is a lord."""


class TooMany(Refused):
    """More things than the limit lets."""


class BadPrice(Refused):
    """A table that has not its form."""


class BadWeight(Refused):
    """A place at which all numbers of a table are 0."""


class BadNarrow(Refused):
    """A row to which a box cannot be narrowed."""


class BadText(Refused):
    """A text that has not its form."""


class NothingToUndo(Refused):
    """No deed stands that could be undone."""


class NothingToRedo(Refused):
    """No deed was undone that could be redone."""
