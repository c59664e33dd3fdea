"""Fields, their numbers, and what is reckoned with numbers."""

from towerback.errors import ByNought, InvalidField
from towerback.forms import DEEPEST, has_field_form, is_given_line, is_given_number
from towerback.integers import GREATEST
from towerback.needs import need_field, need_integer, need_line, need_number, need_two_numbers
from towerback.rawways import constant_of, inverted, minus, negated, plus, powered, settled, times

GREATEST_POWER = 30


def is_field(value):
    """Tell whether any value is a field, as it can be handed in."""
    return has_field_form(value, DEEPEST)


def is_number(field, value):
    """Tell whether any value is a number of a field, as it can be handed in."""
    need_field(field)
    return is_given_number(field, value)


def is_line(field, value):
    """Tell whether any value is a line over a field, as it can be handed in."""
    need_field(field)
    return is_given_line(field, value)


def number_of(field, over, under):
    """Return so many ones of a field by so many."""
    need_field(field)
    need_integer(over, -GREATEST, GREATEST)
    need_integer(under, -GREATEST, GREATEST)
    return constant_of(field, over, under)


def quotient_of(field, over, under):
    """Return the number of the quotients over a field that two lines come to."""
    need_field(field)
    if not has_field_form(field, DEEPEST - 1):
        raise InvalidField("the quotients over this field are none")
    need_line(field, over)
    need_line(field, under)
    if under == ():
        raise ByNought("a line by the line nought")
    return settled(field, over, under)


def number_plus(field, one, other):
    """Return the sum of two numbers."""
    need_two_numbers(field, one, other)
    return plus(field, one, other)


def number_minus(field, one, other):
    """Return the difference of two numbers."""
    need_two_numbers(field, one, other)
    return minus(field, one, other)


def number_times(field, one, other):
    """Return the product of two numbers."""
    need_two_numbers(field, one, other)
    return times(field, one, other)


def negative_of(field, number):
    """Return a number taken the other way."""
    need_field(field)
    need_number(field, number)
    return negated(field, number)


def inverse_of(field, number):
    """Return the inverse of a number."""
    need_field(field)
    need_number(field, number)
    return inverted(field, number)


def number_power(field, number, power):
    """Return a power of a number."""
    need_field(field)
    need_number(field, number)
    need_integer(power, 0, GREATEST_POWER)
    return powered(field, number, power)
