"""Risch's equation brought to lines: the under of its solutions, and how long their over can be."""

from towerback.rawlines import line_slope
from towerback.rawsums import common_under
from towerback.rawtowers import FUNCTIONS, derived_number
from towerback.rawways import lines_common, lines_exact, lines_times, minus, one_of, settled, times
from towerback.stepneeds import need_two_functions


def divisor_within(line, other):
    """Return the greatest monic divisor of a monic line all of whose parts divide another line."""
    found = (one_of(0),)
    common = lines_common(0, line, other)
    while len(common) > 1:
        found = lines_times(0, found, common)
        line = lines_exact(0, line, common)
        common = lines_common(0, line, common)
    return found


def plain_under_bound(inner, function):
    """Return the line by which each solution of Risch's equation is a line."""
    within = divisor_within(function[1], inner[1])
    rest = lines_exact(0, function[1], within)
    slope = derived_number((), inner)
    shared = lines_common(0, within, slope[1])
    return lines_times(0, lines_common(0, rest, line_slope(0, rest)), lines_exact(0, within, shared))


def degree_bound(first, second, wished):
    """Return the highest degree that a line q with first D q + second q = wished can have, -1 for no line but nought.

    The first line is monic, the second one is not nought.
    """
    if not wished:
        return -1
    high, low, degree = len(first) - 1, len(second) - 1, len(wished) - 1
    if low > high - 1:
        return max(-1, degree - low)
    if low < high - 1:
        return max(0, degree - high + 1)
    # The last numbers of both products cancel for a line of one degree alone: it is that of the under of the
    # solutions, as D w, a derivative, has no number at the power -1 far away.
    return max(degree - low, -second[-1][0])


def plain_reduced(inner, function):
    """Return the reduced equation of Risch's equation."""
    under = plain_under_bound(inner, function)
    slope = minus(FUNCTIONS, derived_number((), inner), settled(0, line_slope(0, under), under))
    wished = times(FUNCTIONS, (under, (one_of(0),)), function)
    first = common_under(0, (slope[1], wished[1]))
    second = lines_times(0, slope[0], lines_exact(0, first, slope[1]))
    third = lines_times(0, wished[0], lines_exact(0, first, wished[1]))
    return under, first, second, third, degree_bound(first, second, third)


def under_bound(w, g):
    """Return the line e of the reduced equation of Risch's equation."""
    need_two_functions(w, g)
    return plain_under_bound(w, g)


def reduced_equation(w, g):
    """Return the reduced equation (e, a, b, c, n) of Risch's equation."""
    need_two_functions(w, g)
    return plain_reduced(w, g)
