"""Resultants of a line and of another one less z times a third one, as lines in z.

A great integer stands for z: the numbers of the line in z are the digits of what comes out. So it goes only
for fields without roots, by nested whole lines (nested.py).
"""

from towerback.chains import sorted_chain
from towerback.integers import integer_power
from towerback.nested import nested_digits, nested_minus, nested_scaled, nested_weight
from towerback.wholeforms import line_of_whole, whole_line


def pencil_chain(field, under, over, slope):
    """Return the pair (integer, chain) of a line and of over less z times the slope, the integer standing for z.

    It is above twice all integers in the chain's lines, as lines in z, too. The under has degree 1 or more, the
    slope is not nought.
    """
    ring = ("quot", field)
    first = whole_line(field, under)[0]
    parts = whole_line(field, over + slope)[0]
    above, beside = parts[:len(over)], parts[len(over):]
    weight = nested_weight(ring, above) + nested_weight(ring, beside)
    bound = integer_power(nested_weight(ring, first), max(len(above), len(beside)) - 1)
    point = 2 * bound * integer_power(weight, len(first) - 1) + 1
    member = nested_minus(ring, above, nested_scaled(ring, beside, point))
    return point, sorted_chain(field, first, member, ())


def pencil_line(field, point, chain):
    """Return the monic line in z over a field of a chain, whose roots are over by slope at the roots of the under."""
    digits = nested_digits(field, chain[-1][1][0], point)
    return line_of_whole(field, digits, digits[-1])
