"""The errors that several modules share, all directly below MarketError."""


class MarketError(ValueError):
    """What every error of the package is."""


class BadDay(MarketError):
    """A value is no day that fits here."""

    def __init__(self, given):
        self.given = given


class BadCause(MarketError):
    """A value is no cause."""

    def __init__(self, given):
        self.given = given


class BadPostings(MarketError):
    """A value is no dict of postings."""

    def __init__(self, given):
        self.given = given


class BadAccount(MarketError):
    """A value is no account that fits here."""

    def __init__(self, given):
        self.given = given


class BadAmount(MarketError):
    """A value is no amount that fits here."""

    def __init__(self, given):
        self.given = given


class BadUnit(MarketError):
    """A value is no unit."""

    def __init__(self, given):
        self.given = given


class BadOwner(MarketError):
    """A value is no owner that fits here."""

    def __init__(self, given):
        self.given = given


class BadName(MarketError):
    """A value is no name that fits here."""

    def __init__(self, given):
        self.given = given


class BadPrice(MarketError):
    """A value is no price."""

    def __init__(self, given):
        self.given = given


class BadRow(MarketError):
    """A value is no row."""

    def __init__(self, given):
        self.given = given


class BadStatement(MarketError):
    """A value is no statement."""

    def __init__(self, given):
        self.given = given


class NotCarried(MarketError):
    """A balance of a closing is not the one of the opening behind it."""

    def __init__(self, given):
        self.given = given


class NotWhole(MarketError):
    """The lines of a day and a number do not make a row."""

    def __init__(self, given):
        self.given = given


class Unbalanced(MarketError):
    """The integers of a unit do not sum to 0, but to `off`."""

    def __init__(self, given, off):
        self.given = given
        self.off = off


class BadText(MarketError):
    """A value is not the text of what should be read."""


class BadLine(MarketError):
    """A line, counted from 1, is not the text of what should be read."""

    def __init__(self, line):
        self.line = line


class NothingToUndo(MarketError):
    """There is nothing to take back."""


class NothingToRedo(MarketError):
    """There is nothing to do again."""
