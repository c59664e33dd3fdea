"""What is a field, a number of it or a line over it, of any size or as it can be handed in."""

from math import gcd
from towerback.errors import ByNought
from towerback.integers import GREATEST, is_integer, is_integer_in, is_small_prime
from towerback.rawways import lines_common, nought_of, one_of

LAST_PRIME = 9973
DEEPEST = 6
LONGEST = 61
MOST_PARTS = 20000


def is_pair(value):
    """Tell whether any value is a tuple of two items."""
    return isinstance(value, tuple) and len(value) == 2


def is_within_size(value):
    """Tell whether tuples and integers are few enough, small enough and short enough to be handed in."""
    waiting = [value]
    many = 0
    while waiting:
        part = waiting.pop()
        many += 1
        if many > MOST_PARTS:
            return False
        if isinstance(part, tuple):
            if len(part) > LONGEST:
                return False
            waiting.extend(part)
        elif is_integer(part) and abs(part) > GREATEST:
            return False
    return True


def is_prime_field(value):
    """Tell whether any value is a prime that is a field."""
    return is_integer_in(value, 2, LAST_PRIME) and is_small_prime(value)


def has_field_form(value, deepest):
    """Tell whether any value is a field, built so deep at most."""
    if not isinstance(value, tuple):
        return is_prime_field(value) or (is_integer(value) and value == 0)
    if deepest == 0 or not 2 <= len(value) <= 3 or not isinstance(value[0], str):
        return False
    if value[0] != ("quot" if len(value) == 2 else "root"):
        return False
    if not has_field_form(value[1], deepest - 1):
        return False
    return len(value) == 2 or has_root_line(value[1], value[2])


def has_root_line(field, value):
    """Tell whether any value is a line that a field of roots can have."""
    return is_given_line(field, value) and len(value) >= 2 and value[-1] == one_of(field)


def has_number_form(field, value):
    """Tell whether any value is a number of a field, of any size."""
    if field == 0:
        return is_pair(value) and is_integer(value[0]) and is_integer(value[1]) and is_settled(value[0], value[1])
    if isinstance(field, int):
        return is_integer_in(value, 0, field - 1)
    if field[0] == "root":
        return has_line_form(field[1], value) and len(value) < len(field[2])
    if not is_pair(value) or not has_line_form(field[1], value[0]) or not has_line_form(field[1], value[1]):
        return False
    return value[1] != () and value[1][-1] == one_of(field[1]) and are_apart(field[1], value[0], value[1])


def is_settled(over, under):
    """Tell whether two integers are a fraction in lowest terms."""
    return under > 0 and gcd(over, under) == 1


def has_line_form(field, value):
    """Tell whether any value is a line over a field, of any size."""
    if not isinstance(value, tuple) or not all(has_number_form(field, part) for part in value):
        return False
    return value == () or value[-1] != nought_of(field)


def are_lines(field, value, many):
    """Tell whether any value is a tuple of so many lines over a field, of any size."""
    return isinstance(value, tuple) and len(value) == many and all(has_line_form(field, part) for part in value)


def is_monic(field, line):
    """Tell whether a line is monic, and of degree 1 or more."""
    return len(line) > 1 and line[-1] == one_of(field)


def are_apart(field, one, other):
    """Tell whether two lines, not both nought, have no common divisor of degree 1 or more."""
    try:
        return len(lines_common(field, one, other)) == 1
    except ByNought:
        # Only in a field whose roots are of a line that can be split; such are never handed in.
        return False


def is_given_number(field, value):
    """Tell whether any value is a number of a field as it can be handed in."""
    return is_within_size(value) and has_number_form(field, value)


def is_given_line(field, value):
    """Tell whether any value is a line over a field as it can be handed in."""
    return is_within_size(value) and has_line_form(field, value)
