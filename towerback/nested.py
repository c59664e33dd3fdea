"""Nested whole lines.

The ring of the field 0 are the integers, that of a prime is the field itself, and that of ("quot", F)
are the tuples of what is in the ring of F, the last item not nought: the polynomials in as many unknowns
as the field says "quot". A ring is told by its field. Its nought is 0 or ().
"""

from math import gcd
from towerback.integers import inverse_rest
from towerback.modlines import mod_times, trimmed


def nested_constant(ring, number):
    """Return an integer, from 0 to 1, as a nested line."""
    if isinstance(ring, int):
        return number
    return (nested_constant(ring[1], number),) if number else ()


def is_unit(ring, value):
    """Tell whether a nested line that is not nought has an inverse in its ring."""
    while not isinstance(ring, int):
        if len(value) > 1:
            return False
        ring, value = ring[1], value[0]
    return ring > 0 or value in (1, -1)


def nested_plus(ring, one, other):
    """Return the sum."""
    if isinstance(ring, int):
        return (one + other) % ring if ring else one + other
    if len(one) < len(other):
        one, other = other, one
    if ring[1] == 0:
        sums = [a + b for a, b in zip(one, other)]
    else:
        sums = [nested_plus(ring[1], a, b) for a, b in zip(one, other)]
    sums.extend(one[len(other):])
    return trimmed(sums)


def nested_scaled(ring, value, many):
    """Return a nested line times an integer that is not 0 in its ring."""
    if isinstance(ring, int):
        return value * many % ring if ring else value * many
    return tuple(nested_scaled(ring[1], part, many) for part in value)


def nested_minus(ring, one, other):
    """Return the difference."""
    if ring == 0:
        return one - other
    return nested_plus(ring, one, nested_scaled(ring, other, -1))


def whole_product(one, other):
    """Return the product of two lines of integers that are not nought."""
    sums = [0] * (len(one) + len(other) - 1)
    for i, a in enumerate(one):
        if a:
            for j, b in enumerate(other):
                sums[i + j] += a * b
    return tuple(sums)


def nested_times(ring, one, other):
    """Return the product."""
    if isinstance(ring, int):
        return one * other % ring if ring else one * other
    if not one or not other:
        return ()
    if isinstance(ring[1], int):
        return mod_times(ring[1], one, other) if ring[1] else whole_product(one, other)
    sums = [()] * (len(one) + len(other) - 1)
    for i, a in enumerate(one):
        for j, b in enumerate(other):
            if a and b:
                sums[i + j] = nested_plus(ring[1], sums[i + j], nested_times(ring[1], a, b))
    return tuple(sums)


def integer_exact(ring, number, other):
    """Return the quotient of two integers in the integers or in a prime field, or None if there is none."""
    if ring:
        return number * inverse_rest(other, ring) % ring
    times, left = divmod(number, other)
    return None if left else times


def nested_exact(ring, line, other):
    """Return the nested line that times the other one, not nought, is the line, or None."""
    if isinstance(ring, int):
        return integer_exact(ring, line, other)
    many = len(line) - len(other) + 1
    if many <= 0:
        return None if line else ()
    inner = ring[1]
    rest = list(line)
    quotient = [nested_constant(inner, 0)] * many
    for k in reversed(range(many)):
        top = rest.pop()
        if top:
            times = nested_exact(inner, top, other[-1])
            if times is None:
                return None
            quotient[k] = times
            for i, b in enumerate(other[:-1]):
                rest[k + i] = nested_minus(inner, rest[k + i], nested_times(inner, times, b))
    return None if any(rest) else tuple(quotient)


def nested_content(ring, value):
    """Return the greatest common divisor of all integers in a nested line."""
    if isinstance(ring, int):
        return abs(value)
    found = 0
    for part in value:
        found = gcd(found, nested_content(ring[1], part))
        if found == 1:
            break
    return found


def nested_shared(ring, value, many):
    """Return a nested line of integers by an integer that divides all of them."""
    if isinstance(ring, int):
        return value // many
    return tuple(nested_shared(ring[1], part, many) for part in value)


def nested_height(ring, value):
    """Return the greatest size of an integer in a nested line."""
    if isinstance(ring, int):
        return abs(value)
    return max([nested_height(ring[1], part) for part in value], default=0)


def nested_weight(ring, value):
    """Return the sum of the sizes of all integers in a nested line."""
    if isinstance(ring, int):
        return abs(value)
    return sum([nested_weight(ring[1], part) for part in value])


def nested_at(ring, value, point):
    """Return the value of a nested line, in the ring of the field below, at an integer."""
    found = nested_constant(ring[1], 0)
    for part in reversed(value):
        found = nested_plus(ring[1], nested_scaled(ring[1], found, point), part)
    return found


def nested_digit(ring, value, point):
    """Return the nested line of the rests by a point that lie next to 0."""
    if isinstance(ring, int):
        rest = value % point
        return rest - point if 2 * rest > point else rest
    return trimmed([nested_digit(ring[1], part, point) for part in value])


def nested_digits(ring, value, point):
    """Return the nested line, of a ring one higher, with small integers that has this value at a point."""
    digits = []
    while value:
        digit = nested_digit(ring, value, point)
        digits.append(digit)
        value = nested_shared(ring, nested_minus(ring, value, digit), point)
    return tuple(digits)
