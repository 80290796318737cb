"""The errors that the functions of the package raise."""


class FlipError(ValueError):
    """A value is not of the form that is asked for."""


class InvalidLetters(FlipError):
    """The value is no letters."""


class InvalidLog(FlipError):
    """The value is no log, or has an event that is none of the letters."""


class InvalidMachine(FlipError):
    """The value is no machine."""


class InvalidJudge(FlipError):
    """The value is no judge."""


class InvalidHistory(FlipError):
    """The value is no history."""


class InvalidTower(FlipError):
    """The value is no tower."""


class InvalidChain(FlipError):
    """The value is no chain."""


class InvalidLadder(FlipError):
    """The value is no ladder."""


class InvalidRule(FlipError):
    """The value is no rule."""


class InvalidOperation(FlipError):
    """The values do not fit together, or something else is asked that cannot be done."""


class InvalidEdit(FlipError):
    """The value is no tuple of events that can be told."""


class ParseError(FlipError):
    """The value is not the text of such a thing."""


class InvalidNumber(IndexError):
    """The value is no number, position or state that is allowed here."""

    def __init__(self, value):
        self.value = value


class UnknownName(KeyError):
    """The name stands for nothing here."""

    def __init__(self, name):
        self.name = name


class TooLate(LookupError):
    """Events with this time can no longer be told."""

    def __init__(self, time):
        self.time = time


class TooMany(OverflowError):
    """A result would be greater than the limit."""

    def __init__(self, limit):
        self.limit = limit


class Unlimited(ArithmeticError):
    """There is no number, because there is this swing."""

    def __init__(self, swing):
        self.swing = swing


class NothingToUndo(RuntimeError):
    """So many steps cannot be undone."""

    def __init__(self, many):
        self.many = many
