"""Numbers and lines of fields without roots, as nested whole lines.

A number of such a field is a quotient of two things of the field's ring (nested.py); a line over it is
a thing of the ring of ("quot", field) by one of the field's ring.
"""

from towerback.integers import fraction, inverse_rest
from towerback.nested import is_unit, nested_constant, nested_exact, nested_times
from towerback.nestedcommon import IMAGE_PRIME, bottom_of, image_point, nested_common


def has_whole_forms(field):
    """Tell whether numbers of a field are quotients of nested whole lines: it has no roots, and is no prime."""
    if isinstance(field, int):
        return field == 0
    while not isinstance(field, int):
        if field[0] == "root":
            return False
        field = field[1]
    return True


def common_multiple(ring, parts):
    """Return a common multiple, as small as can be, of nested lines that are not nought."""
    found = nested_constant(ring, 1)
    for part in parts:
        if not is_unit(ring, part) and part != found:
            missing = nested_exact(ring, part, nested_common(ring, part, found))
            found = nested_times(ring, found, missing)
    return found


def whole_number(field, number):
    """Return the pair of nested lines whose quotient a number is."""
    if isinstance(field, int):
        return (number, 1) if field else number
    over, by_over = whole_line(field[1], number[0])
    under, by_under = whole_line(field[1], number[1])
    if by_over == by_under:
        return over, under
    common = nested_common(field[1], by_over, by_under)
    above = nested_exact(field[1], by_under, common)
    below = nested_exact(field[1], by_over, common)
    return nested_times(field, over, (above,)), nested_times(field, under, (below,))


def whole_line(field, line):
    """Return the pair of a nested line, of the ring of ("quot", field), and of one by which it is the line."""
    pairs = [whole_number(field, number) for number in line]
    under = common_multiple(field, [pair[1] for pair in pairs])
    parts = []
    for above, below in pairs:
        if below != under:
            above = nested_times(field, above, nested_exact(field, under, below))
        parts.append(above)
    return tuple(parts), under


def number_of_whole(field, over, under):
    """Return the number that the quotient of two nested lines is, the under not being nought."""
    if isinstance(field, int):
        return over * inverse_rest(under, field) % field if field else fraction(over, under)
    common = nested_common(field, over, under)
    if not is_unit(field, common):
        over = nested_exact(field, over, common)
        under = nested_exact(field, under, common)
    return line_of_whole(field[1], over, under[-1]), line_of_whole(field[1], under, under[-1])


def line_of_whole(field, parts, under):
    """Return the line over a field whose numbers are nested lines by one of them."""
    return tuple(number_of_whole(field, part, under) for part in parts)


def number_image(field, number, turn, prime):
    """Return the image of a number mod a prime, or None if it has none."""
    if isinstance(field, int) and field:
        return number
    over, under = number
    if field:
        over = line_image(field[1], over, turn, prime)
        under = line_image(field[1], under, turn, prime)
        if over is None or under is None:
            return None
    if under % prime == 0:
        return None
    return over % prime if under == 1 else over * inverse_rest(under, prime) % prime


def line_image(field, line, turn, prime):
    """Return the image of the value of a line at the point of its unknown, or None if it has none."""
    point = image_point(field, turn, prime)
    found = 0
    for part in reversed(line):
        image = number_image(field, part, turn, prime)
        if image is None:
            return None
        found = (found * point + image) % prime
    return found


def line_images(field, line, turn, prime):
    """Return the list of the images of the numbers of a line, None for one that has none."""
    return [number_image(field, part, turn, prime) for part in line]


def may_be_sum(field, pairs, wished):
    """Tell whether images leave it open that the products of pairs of lines come to a line."""
    prime = bottom_of(field) or IMAGE_PRIME
    found = 0
    for one, other in pairs:
        image, by_image = line_image(field, one, 0, prime), line_image(field, other, 0, prime)
        if image is None or by_image is None:
            return True
        found += image * by_image
    image = line_image(field, wished, 0, prime)
    return image is None or (found - image) % prime == 0
