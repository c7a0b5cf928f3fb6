"""The errors that the package raises."""


class RunError(ArithmeticError):
    """What all errors of the package are."""


class InvalidProgram(RunError):
    """A part of a program is not as it must be."""

    def __init__(self, part, at):
        self.part = part
        self.at = at


class InvalidText(RunError):
    """A text is not that of a program."""

    def __init__(self, line, column):
        self.line = line
        self.column = column


class InvalidSpot(RunError):
    """A value is not a spot of the program, or not one of the kind that is needed."""

    def __init__(self, spot):
        self.spot = spot


class NotReached(RunError):
    """The run does not come to this spot."""

    def __init__(self, spot):
        self.spot = spot


class Grown(RunError):
    """A statement at this spot touches a retired object."""

    def __init__(self, spot):
        self.spot = spot


class InvalidName(RunError):
    """A value is not a name that is known here."""

    def __init__(self, name):
        self.name = name


class InvalidNumber(RunError):
    """A value is not a number that may stand here."""

    def __init__(self, number):
        self.number = number


class InvalidPlace(RunError):
    """A value is not a place or an address that may stand here."""

    def __init__(self, place):
        self.place = place


class InvalidArgument(RunError):
    """An argument, or a part of one, is not as it must be."""

    def __init__(self, part):
        self.part = part


class LimitExceeded(RunError):
    """More would be needed than a limit allows."""

    def __init__(self, limit):
        self.limit = limit
