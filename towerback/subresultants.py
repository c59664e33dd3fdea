"""Subresultants of lines, with rows that show how they come of the lines."""

from towerback.chains import ring_form, ring_one, sorted_chain, subresultant_under, told_line, told_times
from towerback.errors import InvalidIndex, TooMany
from towerback.forms import are_lines
from towerback.integers import is_integer_in
from towerback.linegcd import come_to
from towerback.needs import need_two_filled
from towerback.rawways import nought_of

MOST_DEGREES = 24


def need_degrees(one, other):
    """Raise TooMany if the degrees of two lines come to more than 24."""
    if len(one) + len(other) - 2 > MOST_DEGREES:
        raise TooMany(MOST_DEGREES)


def need_indexed(field, one, other, index):
    """Raise the errors of a field, two lines over it, not nought, and an index of them."""
    need_two_filled(field, one, other)
    least, greatest = min(len(one), len(other)) - 1, max(len(one), len(other)) - 1
    if not is_integer_in(index, 0, least) or index == greatest:
        raise InvalidIndex("this is no index of both lines")
    need_degrees(one, other)


def subresultant_lines(field, one, other, index):
    """Return the triple (s, u, v) of the subresultant with an index, and lines with u one + v other = s."""
    above, beside = ring_form(field, one), ring_form(field, other)
    for row in sorted_chain(field, above[0], beside[0], ring_one(field)):
        if row[0] == index:
            under = subresultant_under(field, above, beside, index)
            return (told_line(field, row[1], under),) + told_times(field, above, beside, row[1:], under)
    return (), (), ()


def subresultant_line(field, one, other, index):
    """Return the subresultant of two lines with an index."""
    above, beside = ring_form(field, one), ring_form(field, other)
    for row in sorted_chain(field, above[0], beside[0], ()):
        if row[0] == index:
            return told_line(field, row[1], subresultant_under(field, above, beside, index))
    return ()


def subresultant(field, one, other, index):
    """Return the subresultant of two lines with an index."""
    need_indexed(field, one, other, index)
    return subresultant_line(field, one, other, index)


def leading_number(field, one, other, index):
    """Return the leading number of the subresultant of two lines with an index."""
    need_indexed(field, one, other, index)
    line = subresultant_line(field, one, other, index)
    return line[index] if len(line) > index else nought_of(field)


def subresultant_row(field, one, other, index):
    """Return a triple (s, u, v) of the subresultant with an index, and lines with u one + v other = s."""
    need_indexed(field, one, other, index)
    return subresultant_lines(field, one, other, index)


def is_subresultant_row(field, one, other, index, value):
    """Tell whether any value is a triple (s, u, v) of the subresultant, and short lines by which it comes of both."""
    need_indexed(field, one, other, index)
    if not are_lines(field, value, 3):
        return False
    line, first, second = value
    if len(first) > max(1, len(other) - 1 - index) or len(second) > max(1, len(one) - 1 - index):
        return False
    if not come_to(field, (first, one), (second, other), line):
        return False
    return subresultant_line(field, one, other, index) == line


def subresultants_of(field, one, other):
    """Return the ascending tuple of the pairs (index, subresultant) of all subresultants that are not nought."""
    need_two_filled(field, one, other)
    need_degrees(one, other)
    above, beside = ring_form(field, one), ring_form(field, other)
    found = []
    for index, line, _ in reversed(sorted_chain(field, above[0], beside[0], ())):
        found.append((index, told_line(field, line, subresultant_under(field, above, beside, index))))
    return tuple(found)
