"""Whole lines: contents, sums, products, values and quotients."""

from towerback.errors import InvalidWhole
from towerback.integers import GREATEST
from towerback.lineroots import value_of_whole
from towerback.needs import need_integer, need_line
from towerback.nested import nested_exact, nested_plus, nested_times
from towerback.wholeways import WHOLE, cleared, need_filled_whole, need_whole, whole_content, whole_primitive


def content_of(line):
    """Return the content of a whole line."""
    need_whole(line)
    return whole_content(line)


def primitive_of(line):
    """Return the primitive part of a whole line."""
    need_filled_whole(line)
    return whole_primitive(line)


def whole_plus(one, other):
    """Return the sum of two whole lines."""
    need_whole(one)
    need_whole(other)
    return nested_plus(WHOLE, one, other)


def whole_times(one, other):
    """Return the product of two whole lines."""
    need_whole(one)
    need_whole(other)
    return nested_times(WHOLE, one, other)


def whole_at(line, number):
    """Return the value of a whole line at an integer."""
    need_whole(line)
    need_integer(number, -GREATEST, GREATEST)
    return value_of_whole(line, number)


def whole_divided(line, other):
    """Return the whole line that times the other one is the line, or None."""
    need_whole(line)
    need_filled_whole(other)
    return nested_exact(WHOLE, line, other)


def cleared_line(line):
    """Return the pair (fraction, primitive whole line) whose product is a line over the field 0."""
    need_line(0, line)
    if line == ():
        raise InvalidWhole("the line is nought")
    return cleared(line)
