"""Integrals of rational functions."""

from towerback.forms import has_number_form, is_pair
from towerback.hermite import plain_hermite
from towerback.needs import need_number
from towerback.oneform import logarithms_of_plain
from towerback.rawsums import derived_sums
from towerback.rawtowers import FUNCTIONS, derived_number
from towerback.rawways import plus, times
from towerback.rootsums import have_sums_form


def line_integral(line):
    """Return the line over 0 without constant whose derivative a line over 0 is."""
    if not line:
        return ()
    return ((0, 1),) + tuple([times(0, number, (1, at + 1)) for at, number in enumerate(line)])


def rational_part(triple):
    """Return the rational part of the integral of a rational function, from its Hermite triple."""
    return plus(FUNCTIONS, (line_integral(triple[2][0]), ((1, 1),)), triple[0])


def plain_integral(thing):
    """Return the integral of a rational function; TooMany if its plain part is too long."""
    triple = plain_hermite((), thing)
    return rational_part(triple), logarithms_of_plain(triple[1])


def integral_of(thing):
    """Return the integral of a rational function."""
    need_number(FUNCTIONS, thing)
    return plain_integral(thing)


def is_integral(thing, value):
    """Tell whether any value is an integral of a rational function."""
    need_number(FUNCTIONS, thing)
    if not is_pair(value) or not has_number_form(FUNCTIONS, value[0]) or not have_sums_form((), value[1]):
        return False
    return plus(FUNCTIONS, derived_number((), value[0]), derived_sums((), value[1])) == thing
