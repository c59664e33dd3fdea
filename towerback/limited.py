"""Rational functions as derivatives, and fractions times the derivative of a function by it, with papers."""

from towerback.forms import has_number_form
from towerback.hermite import plain_hermite
from towerback.integers import is_tagged
from towerback.rational import rational_part
from towerback.rawroots import fraction_of, raised
from towerback.rawtowers import FUNCTIONS, derived_number
from towerback.rawways import inverted, plus, times
from towerback.residues import is_normal_line
from towerback.stepneeds import need_two_functions


def logarithm_slope(inner):
    """Return the derivative of an inner function by the function."""
    return times(FUNCTIONS, derived_number((), inner), inverted(FUNCTIONS, inner))


def share_of(inner, function):
    """Return the fraction that times the derivative of an inner function by it is a function, or None."""
    return fraction_of(FUNCTIONS, times(FUNCTIONS, function, inverted(FUNCTIONS, logarithm_slope(inner))))


def plain_limited(inner, function):
    """Return a limited paper of an inner function and of a rational function."""
    triple = plain_hermite((), function)
    share = share_of(inner, triple[1])
    if share is None:
        return "no", rational_part(triple), triple[1]
    return "yes", rational_part(triple), share


def is_simple(function):
    """Tell whether a rational function is simple."""
    return len(function[0]) < len(function[1]) and is_normal_line((), function[1])


def shows_limited(inner, function, value):
    """Tell whether any value is a limited paper of an inner function and of a rational function."""
    if is_tagged(value, "yes", 3):
        if not has_number_form(FUNCTIONS, value[1]) or not has_number_form(0, value[2]):
            return False
        left = times(FUNCTIONS, raised(FUNCTIONS, value[2]), logarithm_slope(inner))
    elif is_tagged(value, "no", 3):
        if not has_number_form(FUNCTIONS, value[1]) or not has_number_form(FUNCTIONS, value[2]):
            return False
        left = value[2]
        if not is_simple(left) or share_of(inner, left) is not None:
            return False
    else:
        return False
    return plus(FUNCTIONS, derived_number((), value[1]), left) == function


def limited_paper(u, h):
    """Return a limited paper of an inner function and of a rational function."""
    need_two_functions(u, h)
    return plain_limited(u, h)


def takes_limited(u, h, value):
    """Tell whether any value is a limited paper of an inner function and of a rational function."""
    need_two_functions(u, h)
    return shows_limited(u, h, value)
