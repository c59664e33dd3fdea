"""Whole lines: what they are, contents, values and quotients, and the checks of those that are handed in."""

from towerback.errors import InvalidWhole
from towerback.integers import GREATEST, fraction, is_integer
from towerback.nested import nested_content, nested_exact
from towerback.wholeforms import whole_line

WHOLE = ("quot", 0)
LONGEST_WHOLE = 13


def is_whole(value):
    """Tell whether any value is a whole line, of any size."""
    if not isinstance(value, tuple) or not all(is_integer(number) for number in value):
        return False
    return value == () or value[-1] != 0


def is_given_whole(value):
    """Tell whether any value is a whole line as it can be handed in."""
    return is_whole(value) and len(value) <= LONGEST_WHOLE and all(abs(number) <= GREATEST for number in value)


def need_whole(line):
    """Raise InvalidWhole for what is no whole line."""
    if not is_given_whole(line):
        raise InvalidWhole("this is no whole line")


def need_filled_whole(line):
    """Raise InvalidWhole for what is no whole line, and for the line nought."""
    need_whole(line)
    if line == ():
        raise InvalidWhole("the line is nought")


def need_primitive(line):
    """Raise InvalidWhole for what is no primitive whole line with the unknown."""
    need_filled_whole(line)
    if not is_primitive(line):
        raise InvalidWhole("the line is not primitive, or has not the unknown")


def whole_content(line):
    """Return the content of a whole line."""
    content = nested_content(WHOLE, line)
    return -content if line and line[-1] < 0 else content


def is_primitive(line):
    """Tell whether a whole line is primitive, and has the unknown."""
    return len(line) > 1 and whole_content(line) == 1


def shared_line(line, number):
    """Return a whole line by an integer that divides all of its numbers."""
    return tuple(part // number for part in line)


def whole_primitive(line):
    """Return the primitive part of a whole line that is not nought."""
    return shared_line(line, whole_content(line))


def divides_whole(line, other):
    """Tell whether a whole line, not nought, divides another one that is not nought."""
    # The values at 1 and at 0 tell most lines that do not.
    if line[0] == 0 and other[0] or line[0] and other[0] % line[0] or other[-1] % line[-1]:
        return False
    value = sum(line)
    if value and sum(other) % value:
        return False
    return nested_exact(WHOLE, other, line) is not None


def cleared(line):
    """Return the pair (fraction, primitive whole line) whose product is a line over the fractions, not nought."""
    parts, under = whole_line(0, line)
    content = whole_content(parts)
    return fraction(content, under), shared_line(parts, content)


def fraction_line(line):
    """Return the line over the fractions that a whole line is."""
    return tuple((number, 1) for number in line)


def monic_fractions(line):
    """Return a whole line that is not nought, by its last number, as a line over the fractions."""
    return tuple(fraction(number, line[-1]) for number in line)


def half_degree(line):
    """Return half the degree, rounded down, of a line that is not nought."""
    return (len(line) - 1) // 2
