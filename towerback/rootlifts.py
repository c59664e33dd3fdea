"""Constants, root lines, and fields with their roots."""

from towerback.errors import InvalidField, InvalidLine
from towerback.forms import DEEPEST, is_given_line
from towerback.needs import need_field, need_line, need_number
from towerback.nestedcommon import bottom_of
from towerback.rawroots import depth_of, field_with, fraction_of, raised, spread
from towerback.wholefactors import is_unsplit_primitive
from towerback.wholeways import cleared

HIGHEST_ROOT_DEGREE = 12


def need_bottom(field):
    """Raise InvalidField for what is no field whose bottom is 0."""
    need_field(field)
    if bottom_of(field):
        raise InvalidField("the field is built over a prime")


def need_shallow(field, more):
    """Raise InvalidField for a field that can not be built deeper by so many."""
    if depth_of(field) + more > DEEPEST:
        raise InvalidField("the field becomes too deep")


def is_plain_root_line(line):
    """Tell whether a line over 0 is a root line, of any size."""
    if not 2 <= len(line) <= HIGHEST_ROOT_DEGREE + 1 or line[-1] != (1, 1):
        return False
    return line != ((0, 1), (1, 1)) and is_unsplit_primitive(cleared(line)[1])


def need_root_line(line):
    """Raise InvalidLine for what is no root line."""
    if not is_root_line(line):
        raise InvalidLine("this is no root line")


def constant_in(field, number):
    """Return the constant of a field that a fraction is."""
    need_bottom(field)
    need_number(0, number)
    return raised(field, number)


def constant_of(field, number):
    """Return the fraction that a number of a field is, or None if it is no constant."""
    need_bottom(field)
    need_number(field, number)
    return fraction_of(field, number)


def is_root_line(value):
    """Tell whether any value is a root line, as it can be handed in."""
    return is_given_line(0, value) and is_plain_root_line(value)


def with_root(field, line):
    """Return a field with a root line."""
    need_bottom(field)
    need_root_line(line)
    need_shallow(field, 1)
    return field_with(field, line)


def spread_line(field, line, other):
    """Return a line over a field with a root as a number, with this root, of the quotients over the field."""
    need_bottom(field)
    need_root_line(line)
    need_shallow(field, 2)
    need_line(field_with(field, line), other)
    return spread(field, other, len(line) - 1)
