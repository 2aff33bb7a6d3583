"""The errors of the program (point 4)."""


class OverpassesError(ValueError):
    """The base class of all errors of the program."""

    def __init__(self, at):
        self.at = at


class BadLine(OverpassesError):
    """A line of a text is not written as a line of a net."""


class BadPlace(OverpassesError):
    """The number of places of a net, or a place of a link, is out of range."""


class BadPrice(OverpassesError):
    """A price is out of range."""


class WrongOrder(OverpassesError):
    """The places of a link, or two links, stand in the wrong order."""


class NoLink(OverpassesError):
    """No link joins two places."""


class NoPlace(OverpassesError):
    """An integer is not a place of the net."""


class NotAnOrder(OverpassesError):
    """A list is not an order of the places."""


class NoPair(OverpassesError):
    """Two places are not a pair."""


class NothingToUndo(OverpassesError):
    """There is no edit that can be taken back."""


class OutOfRange(OverpassesError):
    """A number is outside of its range."""


class NoTurn(OverpassesError):
    """A triple of places is not a turn of the net."""
