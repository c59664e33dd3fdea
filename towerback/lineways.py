"""Lines over a field, and what is reckoned with them."""

from towerback.errors import ByNought
from towerback.integers import GREATEST
from towerback.needs import need_field, need_integer, need_line, need_number, need_two_lines
from towerback.rawlines import line_slope, line_value, lines_power, rest_power
from towerback.rawways import line_scaled, lines_common, lines_divided, lines_minus, lines_plus, lines_times, monic_of

GREATEST_POWER = 30


def line_plus(field, one, other):
    """Return the sum of two lines."""
    need_two_lines(field, one, other)
    return lines_plus(field, one, other)


def line_minus(field, one, other):
    """Return the difference of two lines."""
    need_two_lines(field, one, other)
    return lines_minus(field, one, other)


def line_times(field, one, other):
    """Return the product of two lines."""
    need_two_lines(field, one, other)
    return lines_times(field, one, other)


def scaled_line(field, line, number):
    """Return a line times a number."""
    need_field(field)
    need_line(field, line)
    need_number(field, number)
    return line_scaled(field, line, number)


def line_at(field, line, number):
    """Return the value of a line at a number."""
    need_field(field)
    need_line(field, line)
    need_number(field, number)
    return line_value(field, line, number)


def slope_of(field, line):
    """Return the derivative of a line by its unknown."""
    need_field(field)
    need_line(field, line)
    return line_slope(field, line)


def powered_line(field, line, power):
    """Return a power of a line."""
    need_field(field)
    need_line(field, line)
    need_integer(power, 0, GREATEST_POWER)
    return lines_power(field, line, power)


def divided_lines(field, line, other):
    """Return the pair of the quotient and of the rest of a line by another one."""
    need_two_lines(field, line, other)
    return lines_divided(field, line, other)


def does_divide(field, line, other):
    """Tell whether the first line divides the other one."""
    need_two_lines(field, line, other)
    if line == ():
        return other == ()
    return lines_divided(field, other, line)[1] == ()


def rest_of_power(field, line, power, other):
    """Return the rest of a power of a line by another one."""
    need_field(field)
    need_line(field, line)
    need_integer(power, 0, GREATEST)
    need_line(field, other)
    return rest_power(field, line, power, other)


def monic_line(field, line):
    """Return a line by its last number."""
    need_field(field)
    need_line(field, line)
    if line == ():
        raise ByNought("the line nought has no last number")
    return monic_of(field, line)


def common_line(field, one, other):
    """Return the monic greatest common divisor of two lines."""
    need_two_lines(field, one, other)
    return lines_common(field, one, other)
