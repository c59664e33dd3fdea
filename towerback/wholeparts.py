"""Products, quotients, divisors and inverses of lines over fields without roots."""

from towerback.modlines import trimmed
from towerback.nested import nested_constant, nested_exact, nested_minus, nested_times
from towerback.nestedcommon import IMAGE_PRIME, TRIES, bottom_of, common_of_all, have_apart_images, nested_common
from towerback.nestedcommon import primitive_of_nested
from towerback.wholeforms import line_images, line_of_whole, number_of_whole, whole_line


def whole_times(field, one, other):
    """Return the product of two lines."""
    above, by_above = whole_line(field, one)
    beside, by_beside = whole_line(field, other)
    under = nested_times(field, by_above, by_beside)
    return line_of_whole(field, nested_times(("quot", field), above, beside), under)


def whole_divided(field, line, other):
    """Return the quotient and the rest of a line by another one that is not nought."""
    if len(line) < len(other):
        return (), line
    above, by_above = whole_line(field, line)
    beside, by_beside = whole_line(field, other)
    rest = list(above)
    quotient = []
    for k in reversed(range(len(above) - len(beside) + 1)):
        top = rest.pop()
        common = nested_common(field, top, beside[-1])
        times = nested_exact(field, top, common)
        if times:
            scale = nested_exact(field, beside[-1], common)
            by_above = nested_times(field, by_above, scale)
            rest = [nested_times(field, scale, part) for part in rest]
            for i, part in enumerate(beside[:-1]):
                rest[k + i] = nested_minus(field, rest[k + i], nested_times(field, times, part))
        quotient.append(number_of_whole(field, nested_times(field, times, by_beside), by_above))
    return tuple(reversed(quotient)), line_of_whole(field, trimmed(rest), by_above)


def whole_rest_of_product(field, one, other, modulus):
    """Return the rest of the product of two lines by a third one, with one quotient for each number."""
    if not one or not other:
        return ()
    above, by_above = whole_line(field, one)
    beside, by_beside = whole_line(field, other)
    under = nested_times(field, by_above, by_beside)
    return rest_of_whole(field, nested_times(("quot", field), above, beside), under, whole_line(field, modulus)[0])


def rest_of_whole(field, line, under, divisor):
    """Return the rest, as a line over the field, of a nested line by a number, divided by a nested line."""
    rest = list(line)
    unit = nested_constant(field, 1)
    while len(rest) >= len(divisor):
        top = rest.pop()
        if top and divisor[-1] != unit:
            rest = [nested_times(field, divisor[-1], part) for part in rest]
            under = nested_times(field, under, divisor[-1])
        first = len(rest) - len(divisor) + 1
        for at, part in enumerate(divisor[:-1]):
            if top and part:
                rest[first + at] = nested_minus(field, rest[first + at], nested_times(field, top, part))
    return line_of_whole(field, trimmed(rest), under)


def are_shown_apart(field, one, other):
    """Tell whether images show that two lines that are not nought are apart."""
    bottom = bottom_of(field)
    prime = bottom or IMAGE_PRIME
    for turn in range(TRIES if bottom else 1):
        images = line_images(field, one, turn, prime)
        others = line_images(field, other, turn, prime)
        if None not in images and None not in others and have_apart_images(images, others, prime):
            return True
    return False


def whole_common(field, one, other):
    """Return the monic greatest common divisor of two lines that are not nought."""
    if are_shown_apart(field, one, other):
        unit = nested_constant(field, 1)
        return line_of_whole(field, (unit,), unit)
    ring = ("quot", field)
    above = primitive_of_nested(ring, whole_line(field, one)[0])
    beside = primitive_of_nested(ring, whole_line(field, other)[0])
    found = nested_common(ring, above, beside)
    return line_of_whole(field, found, found[-1])


def whole_rest_row(field, row, behind):
    """Return the next row of Euclid's way, of nested lines: a rest, and the multiplier of the first line."""
    rest, times = row
    while len(rest) >= len(behind[0]):
        shift = (nested_constant(field, 0),) * (len(rest) - len(behind[0]))
        common = nested_common(field, rest[-1], behind[0][-1])
        by_row = (nested_exact(field, behind[0][-1], common),)
        by_behind = shift + (nested_exact(field, rest[-1], common),)
        rest = whole_mixed(field, (rest, by_row), (behind[0], by_behind))
        times = whole_mixed(field, (times, by_row), (behind[1], by_behind))
    if not rest:
        return rest, times
    common = (common_of_all(field, rest + times),)
    return nested_exact(("quot", field), rest, common), nested_exact(("quot", field), times, common)


def whole_mixed(field, one, other):
    """Return the product of one pair of nested lines less that of another one."""
    ring = ("quot", field)
    return nested_minus(ring, nested_times(ring, one[0], one[1]), nested_times(ring, other[0], other[1]))


def whole_inverse_pair(field, line, modulus):
    """Return a nested line, and a number of the ring by which it is the inverse of a shorter line, or None."""
    above, by_above = whole_line(field, line)
    row = (whole_line(field, modulus)[0], ())
    behind = (above, (nested_constant(field, 1),))
    while len(behind[0]) > 1:
        row, behind = behind, whole_rest_row(field, row, behind)
    if not behind[0]:
        return None
    return nested_times(("quot", field), behind[1], (by_above,)), behind[0][0]


def whole_inverse(field, line, modulus):
    """Return the line, shorter than the modulus, whose product with a shorter line leaves one, or None."""
    found = whole_inverse_pair(field, line, modulus)
    return None if found is None else line_of_whole(field, found[0], found[1])


def whole_rest_of_quotient(field, wished, line, modulus):
    """Return the line, shorter than the modulus, whose product with a shorter line leaves the wished one, or None."""
    found = whole_inverse_pair(field, line, modulus)
    if found is None:
        return None
    above, by_above = whole_line(field, wished)
    product = nested_times(("quot", field), above, found[0])
    return rest_of_whole(field, product, nested_times(field, by_above, found[1]), whole_line(field, modulus)[0])
