"""The errors of this package: each one keeps what was wrong, or where it was wrong."""


class MeanError(ValueError):
    """The base of all errors of this package."""


class InvalidFraction(MeanError):
    """A value that is no fraction, or none of the told size."""

    def __init__(self, given):
        self.given = given


class InvalidNumber(MeanError):
    """A value that is no whole number, or none of the told size."""

    def __init__(self, given):
        self.given = given


class InvalidPair(MeanError):
    """A value that is no pair of fractions."""

    def __init__(self, given):
        self.given = given


class InvalidTable(MeanError):
    """A value that is no table."""

    def __init__(self, given):
        self.given = given


class InvalidGame(MeanError):
    """A value that is no game."""

    def __init__(self, given):
        self.given = given


class InvalidSide(MeanError):
    """A value that is no side."""

    def __init__(self, given):
        self.given = given


class InvalidField(MeanError):
    """A value that is no field."""

    def __init__(self, given):
        self.given = given


class InvalidPlan(MeanError):
    """A value that is no plan, or no telling."""

    def __init__(self, given):
        self.given = given


class InvalidMix(MeanError):
    """A value that is no mix of so many."""

    def __init__(self, index):
        self.index = index


class InvalidPlays(MeanError):
    """A value that is no plays."""

    def __init__(self, index):
        self.index = index


class InvalidColumns(MeanError):
    """A value that is no tuple of indexes of columns."""

    def __init__(self, index):
        self.index = index


class InvalidWeights(MeanError):
    """A value that is no weights, or widths, of the told form."""

    def __init__(self, index):
        self.index = index


class InvalidShares(MeanError):
    """A value that is no shares."""

    def __init__(self, index):
        self.index = index


class InvalidRounds(MeanError):
    """A value that is no rounds."""

    def __init__(self, index):
        self.index = index


class InvalidDays(MeanError):
    """A value that is no days, or no rains."""

    def __init__(self, index):
        self.index = index


class EmptyField(MeanError):
    """A field in which no place lies."""


class NotLed(MeanError):
    """A field that cannot be led into."""


class UnlikeTables(MeanError):
    """Two tables of unlike size."""
