"""The errors of terms, their texts and what they mean."""

from towerback.errors import PaperError


class InvalidText(PaperError):
    """What should be a text is none, or too long."""


class BadText(PaperError):
    """A text is no text of a term: it is refused at a place."""

    def __init__(self, place):
        PaperError.__init__(self, "the text is refused at a place")
        self.place = place


class InvalidTerm(PaperError):
    """What should be a term is none."""


class InvalidPath(PaperError):
    """What should be a path leads to no part."""


class InvalidAnswer(PaperError):
    """What should be an answer is none."""


class AtPart(PaperError):
    """Something is wrong with the part of a term to which a path leads."""

    def __init__(self, path):
        PaperError.__init__(self, "a part of the term is not as it must be")
        self.path = path


class TooDeep(AtPart):
    """A logarithm or exponential stands within another one."""


class ZeroUnder(AtPart):
    """Something is divided by what means nought."""


class ZeroLog(AtPart):
    """The logarithm is one of nought."""


class ConstantStep(AtPart):
    """The logarithm or exponential is one of a constant, and not known."""


class UnknownStep(AtPart):
    """The logarithm or exponential is no step of the tower."""
