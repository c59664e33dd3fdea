"""Greatest common divisors of nested whole lines."""

from math import gcd, isqrt
from towerback.modlines import mod_common, trimmed
from towerback.nested import is_unit, nested_at, nested_constant, nested_content, nested_digits, nested_exact
from towerback.nested import nested_height, nested_scaled, nested_shared, nested_times

IMAGE_PRIME = 2 ** 61 - 1
TRIES = 12


def bottom_of(ring):
    """Return 0 or the prime of which a ring is built."""
    while not isinstance(ring, int):
        ring = ring[1]
    return ring


def image_point(field, turn, prime):
    """Return the number that stands for the unknown of the lines over a field in the images of a turn."""
    depth = 1
    while not isinstance(field, int):
        field = field[1]
        depth += 1
        turn //= prime
    return 7368787 * depth * depth + turn


def nested_image(ring, value, turn, prime):
    """Return the image of a nested line mod a prime."""
    if isinstance(ring, int):
        return value % prime
    point = image_point(ring[1], turn, prime)
    found = 0
    for part in reversed(value):
        found = (found * point + nested_image(ring[1], part, turn, prime)) % prime
    return found


def have_apart_images(one, other, prime):
    """Tell whether two lists of images, at their full lengths, show that two lines are apart."""
    if not one[-1] and not other[-1]:
        return False
    return len(mod_common(prime, trimmed(one), trimmed(other))) == 1


def are_apart_outside(ring, one, other):
    """Tell whether images show that no common divisor has the outer unknown."""
    if len(one) == 1 or len(other) == 1:
        return True
    bottom = bottom_of(ring)
    prime = bottom or IMAGE_PRIME
    for turn in range(TRIES if bottom else 1):
        images = [nested_image(ring[1], part, turn, prime) for part in one]
        if have_apart_images(images, [nested_image(ring[1], part, turn, prime) for part in other], prime):
            return True
    return False


def common_of_all(ring, parts):
    """Return a greatest common divisor of the nested lines of a tuple or list."""
    found = nested_constant(ring, 0)
    for part in parts:
        found = nested_common(ring, found, part)
        if found and is_unit(ring, found):
            break
    return found


def primitive_of_nested(ring, line):
    """Return a nested line, not nought, by all that divides it without its outer unknown."""
    common = common_of_all(ring[1], line)
    if is_unit(ring[1], common):
        return line
    return nested_exact(ring, line, (common,))


def widest_of(line):
    """Return how many items the longest item of a nested line has."""
    return max([len(part) for part in line])


def joined_items(ring, line, place):
    """Return the value of a nested line at a power, above all in it, of the next unknown."""
    nought = nested_constant(ring[1][1], 0)
    joined = []
    for part in line:
        joined.extend(part)
        joined.extend([nought] * (place - len(part)))
    return trimmed(joined)


def split_items(value, place):
    """Return the nested line that has a value at the power of the next unknown with this exponent."""
    return tuple([trimmed(value[first:first + place]) for first in range(0, len(value), place)])


def common_by_places(ring, one, other):
    """Return a greatest common divisor of two primitive lines, built of a prime, in two unknowns or more.

    A divisor that is told by values at a power of the next unknown that is above all in both, and divides
    both, is the greatest; for all great powers it is found.
    """
    place = max(widest_of(one), widest_of(other)) + 1
    while True:
        value = nested_common(ring[1], joined_items(ring, one, place), joined_items(ring, other, place))
        found = primitive_of_nested(ring, split_items(value, place))
        if nested_exact(ring, one, found) is not None and nested_exact(ring, other, found) is not None:
            return found
        place += place // 2 + 1


def common_by_values(ring, one, other):
    """Return the greatest common divisor of two lines of integers without a common divisor.

    A divisor that is told by values at a point above twice an integer of theirs, and divides both,
    is the greatest; for all great points but a few it is found.
    """
    point = 2 * min(nested_height(ring, one), nested_height(ring, other)) + 29
    while True:
        value = nested_common(ring[1], nested_at(ring, one, point), nested_at(ring, other, point))
        found = nested_digits(ring[1], value, point)
        found = nested_shared(ring, found, nested_content(ring, found))
        if nested_exact(ring, one, found) is not None and nested_exact(ring, other, found) is not None:
            return found
        point = point * (isqrt(isqrt(point)) + 2) + 1


def nested_common(ring, one, other):
    """Return a greatest common divisor, any one of those that differ by units."""
    if not one or not other:
        return one or other
    if isinstance(ring, int):
        return 1 if ring else gcd(one, other)
    if are_apart_outside(ring, one, other):
        return (common_of_all(ring[1], one + other),)
    if isinstance(ring[1], int) and ring[1]:
        return mod_common(ring[1], one, other)
    if bottom_of(ring):
        common = (common_of_all(ring[1], one + other),)
        found = common_by_places(ring, primitive_of_nested(ring, one), primitive_of_nested(ring, other))
        return nested_times(ring, found, common)
    contents = nested_content(ring, one), nested_content(ring, other)
    found = common_by_values(ring, nested_shared(ring, one, contents[0]), nested_shared(ring, other, contents[1]))
    return nested_scaled(ring, found, gcd(contents[0], contents[1]))
