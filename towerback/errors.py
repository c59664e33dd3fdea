"""The errors of the package, but for those of terms."""


class PaperError(ValueError):
    """The base class of all errors of this package."""


class InvalidField(PaperError):
    """What should be a field is none, or not one that fits."""


class InvalidNumber(PaperError):
    """What should be a number, an integer or a thing is none that fits."""


class InvalidLine(PaperError):
    """What should be a line is none, or not one that fits."""


class InvalidTower(PaperError):
    """What should be a tower is none."""


class ByNought(PaperError):
    """Something is divided by nought, or by what has no inverse."""


class TooMany(PaperError):
    """What is asked is above a limit."""

    def __init__(self, limit):
        PaperError.__init__(self, "this is above a limit")
        self.limit = limit


class InvalidRow(PaperError):
    """What should be a row is none that fits."""


class InvalidTable(PaperError):
    """What should be a table is none that fits."""


class EmptyLine(PaperError):
    """A line is nought, and must not be."""


class UnfitField(PaperError):
    """A field is not of the kind that is asked for."""


class InvalidIndex(PaperError):
    """What should be an index is none."""


class InvalidBase(PaperError):
    """A line has no degree from 1 on, and must have one."""


class InvalidParts(PaperError):
    """What should be the parts of a fraction are none."""


class InvalidMonic(PaperError):
    """A line is not monic, or has no degree from 1 on."""


class NotSquareFree(PaperError):
    """A line is divided twice by a line with the unknown."""


class InvalidWhole(PaperError):
    """What should be a whole line is none that fits."""


class InvalidLift(PaperError):
    """What should be a good prime, or a lift, is none."""


class InvalidLot(PaperError):
    """What should be a lot of a lift is none."""


class InvalidSums(PaperError):
    """What should be root sums are none."""


class NotProper(PaperError):
    """Two lines are not a quotient by their degrees or last number."""


class NotNormal(PaperError):
    """A line has a common divisor with its derivative."""


class InvalidBounds(PaperError):
    """What should be bounds are none."""


class InvalidInner(PaperError):
    """What should be an inner function is none."""


class InvalidStep(PaperError):
    """What should be a step is none."""


class InvalidMaker(PaperError):
    """What stands in a logarithm or an exponential is not let."""


class NoValue(PaperError):
    """Something has no value, as it is divided by nought."""


class InvalidPoint(PaperError):
    """What should be a point is none."""
