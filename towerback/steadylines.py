"""Lines over X that are steady for another one: their values at its roots are constants."""

from towerback.modlines import mod_divided, mod_plus, mod_scaled, mod_times, trimmed
from towerback.nestedcommon import IMAGE_PRIME
from towerback.rawlines import line_slope
from towerback.rawtowers import FUNCTIONS, derived_number
from towerback.rawways import lines_divided, lines_minus, lines_times, trimmed_line
from towerback.wholeforms import line_image, number_image


def derived_numbers(line):
    """Return a line over X with the derivatives of the numbers in their places."""
    return trimmed_line(FUNCTIONS, [derived_number((), number) for number in line])


def slope_image(number):
    """Return the image, mod the prime of images, of the derivative of a rational function, or None if it has none."""
    prime = IMAGE_PRIME
    parts = [line_image(0, line, 0, prime) for line in number]
    slopes = [line_image(0, line_slope(0, line), 0, prime) for line in number]
    if None in parts or None in slopes:
        return None
    # The square of the under is taken into the image of the quotient that stands beside it.
    above = slopes[0] * parts[1] - parts[0] * slopes[1]
    by = number_image(FUNCTIONS, (((1, 1),), number[1]), 0, prime)
    return None if by is None else above * by * by % prime


def mod_slope(line):
    """Return the derivative, by the unknown alone, of a line mod the prime of images."""
    return trimmed([part * at % IMAGE_PRIME for at, part in enumerate(line)][1:])


def is_shown_unsteady(line, other):
    """Tell whether images show that a line over X is not steady for another one, that is monic."""
    numbers = [[number_image(FUNCTIONS, part, 0, IMAGE_PRIME) for part in one] for one in (line, other)]
    slopes = [[slope_image(part) for part in one] for one in (line, other)]
    if None in numbers[0] + numbers[1] + slopes[0] + slopes[1]:
        return False
    value, under = trimmed(numbers[0]), trimmed(numbers[1])
    first = mod_times(IMAGE_PRIME, trimmed(slopes[0]), mod_slope(under))
    second = mod_times(IMAGE_PRIME, mod_slope(value), trimmed(slopes[1]))
    found = mod_plus(IMAGE_PRIME, first, mod_scaled(IMAGE_PRIME, second, IMAGE_PRIME - 1))
    return mod_divided(IMAGE_PRIME, found, under)[1] != ()


def is_steady(line, other):
    """Tell whether a line over X is steady for another one, that is monic."""
    if is_shown_unsteady(line, other):
        return False
    first = lines_times(FUNCTIONS, derived_numbers(line), line_slope(FUNCTIONS, other))
    second = lines_times(FUNCTIONS, line_slope(FUNCTIONS, line), derived_numbers(other))
    return lines_divided(FUNCTIONS, lines_minus(FUNCTIONS, first, second), other)[1] == ()
