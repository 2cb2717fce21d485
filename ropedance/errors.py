"""The errors of the program."""


class RopeError(ValueError):
    """The base class of all errors of the program."""


class NoFraction(RopeError):
    """There is no such fraction."""


class BadMove(RopeError):
    """This is not a move, or it cannot be made."""


class BadText(RopeError):
    """The text has not the form that was asked for."""


class NoDance(RopeError):
    """There is no such dance."""
