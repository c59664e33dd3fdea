"""Derivatives of terms, nothing being made simpler."""

from towerback.errors import TooMany
from towerback.terms import MOST_TERMS, is_built_within, need_term

HIGHEST_DERIVED = 16
MOST_DERIVED = 400


def slope_of_term(term):
    """Return the derivative of a term."""
    sort = term[0]
    if sort == "whole":
        return "whole", 0
    if sort == "x":
        return "whole", 1
    part = term[1]
    if sort == "power" and term[2] == 0:
        return "whole", 0
    slope = slope_of_term(part)
    if sort == "negative":
        return "negative", slope
    if sort == "power":
        return "times", ("times", ("whole", term[2]), ("power", part, term[2] - 1)), slope
    if sort == "log":
        return "over", slope, part
    if sort == "exp":
        return "times", slope, term
    other = slope_of_term(term[2])
    if sort in ("plus", "minus"):
        return sort, slope, other
    first, second = ("times", slope, term[2]), ("times", part, other)
    if sort == "times":
        return "plus", first, second
    return "over", ("minus", first, second), ("power", term[2], 2)


def derived_term(term):
    """Return the derivative of a term."""
    need_term(term)
    if not is_built_within(term, HIGHEST_DERIVED, MOST_TERMS):
        raise TooMany(HIGHEST_DERIVED)
    if not is_built_within(term, HIGHEST_DERIVED, MOST_DERIVED):
        raise TooMany(MOST_DERIVED)
    return slope_of_term(term)
