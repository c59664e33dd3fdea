"""Numbers of all fields, and lines over them: sums, products and quotients, without any checks.

Both stand in one file, as the numbers of ("quot", F) and ("root", F, q) are made of lines over F.
"""

from towerback.errors import ByNought
from towerback.integers import fraction, inverse_rest
from towerback.modlines import mod_common, mod_divided, mod_inverse, mod_times
from towerback.nestedcommon import IMAGE_PRIME, TRIES, bottom_of, image_point
from towerback.wholeforms import has_whole_forms
from towerback.wholeparts import whole_common, whole_divided, whole_inverse, whole_rest_of_product, whole_times


def one_of(field):
    """Return the one of a field."""
    if field == 0:
        return (1, 1)
    if isinstance(field, int):
        return 1
    one = one_of(field[1])
    return (one,) if field[0] == "root" else ((one,), (one,))


def nought_of(field):
    """Return the nought of a field."""
    if field == 0:
        return (0, 1)
    if isinstance(field, int):
        return 0
    return () if field[0] == "root" else ((), (one_of(field[1]),))


def constant_of(field, over, under):
    """Return so many ones of a field by so many."""
    if field == 0:
        if under == 0:
            raise ByNought("a fraction by 0")
        return fraction(over, under)
    if isinstance(field, int):
        if under % field == 0:
            raise ByNought("a number by the nought of a prime field")
        return over * inverse_rest(under, field) % field
    number = constant_of(field[1], over, under)
    line = () if number == nought_of(field[1]) else (number,)
    return line if field[0] == "root" else (line, (one_of(field[1]),))


def trimmed_line(field, numbers):
    """Return the numbers of a list or tuple, without the noughts at its end, as a line."""
    nought = nought_of(field)
    many = len(numbers)
    while many and numbers[many - 1] == nought:
        many -= 1
    return tuple(numbers[:many])


def plus(field, one, other):
    """Return the sum of two numbers."""
    if field == 0:
        if one[1] == other[1]:
            return fraction(one[0] + other[0], one[1])
        return fraction(one[0] * other[1] + other[0] * one[1], one[1] * other[1])
    if isinstance(field, int):
        return (one + other) % field
    if field[0] == "root":
        return lines_plus(field[1], one, other)
    return quotients_plus(field[1], one, other)


def negated(field, number):
    """Return a number taken the other way."""
    if field == 0:
        return -number[0], number[1]
    if isinstance(field, int):
        return -number % field
    if field[0] == "root":
        return line_negated(field[1], number)
    return line_negated(field[1], number[0]), number[1]


def minus(field, one, other):
    """Return the difference of two numbers."""
    return plus(field, one, negated(field, other))


def times(field, one, other):
    """Return the product of two numbers."""
    if field == 0:
        return fraction(one[0] * other[0], one[1] * other[1])
    if isinstance(field, int):
        return one * other % field
    if field[0] == "root" and has_whole_forms(field[1]):
        return whole_rest_of_product(field[1], one, other, field[2])
    if field[0] == "root":
        return lines_divided(field[1], lines_times(field[1], one, other), field[2])[1]
    return quotients_times(field[1], one, other)


def inverted(field, number):
    """Return the inverse of a number; ByNought if it has none."""
    if number == nought_of(field):
        raise ByNought("the nought has no inverse")
    if field == 0:
        return fraction(number[1], number[0])
    if isinstance(field, int):
        return inverse_rest(number, field)
    if field[0] == "root":
        return line_inverse(field[1], number, field[2])
    by = inverted(field[1], number[0][-1])
    return line_scaled(field[1], number[1], by), line_scaled(field[1], number[0], by)


def multiple(field, number, many):
    """Return an integer times a number."""
    return times(field, constant_of(field, many, 1), number)


def powered(field, number, power):
    """Return a power of a number, with an exponent from 0 on."""
    found = one_of(field)
    square = number
    while power:
        if power & 1:
            found = times(field, found, square)
        power >>= 1
        if power:
            square = times(field, square, square)
    return found


def quotients_plus(field, one, other):
    """Return the sum of two numbers of the quotients over a field."""
    if one[1] == other[1]:
        return settled(field, lines_plus(field, one[0], other[0]), one[1])
    common = lines_common(field, one[1], other[1])
    by_one = lines_exact(field, one[1], common)
    by_other = lines_exact(field, other[1], common)
    over = lines_plus(field, lines_times(field, one[0], by_other), lines_times(field, other[0], by_one))
    shared = lines_common(field, over, common)
    under = lines_times(field, by_one, lines_exact(field, other[1], shared))
    return lines_exact(field, over, shared), under


def quotients_times(field, one, other):
    """Return the product of two numbers of the quotients over a field."""
    if not one[0] or not other[0]:
        return (), (one_of(field),)
    first = lines_common(field, one[0], other[1])
    second = lines_common(field, other[0], one[1])
    over = lines_times(field, lines_exact(field, one[0], first), lines_exact(field, other[0], second))
    under = lines_times(field, lines_exact(field, one[1], second), lines_exact(field, other[1], first))
    return over, under


def settled(field, over, under):
    """Return the number of the quotients over a field that two lines come to, the under not nought."""
    common = lines_common(field, over, under)
    over = lines_exact(field, over, common)
    under = lines_exact(field, under, common)
    if under[-1] == one_of(field):
        return over, under
    by = inverted(field, under[-1])
    return line_scaled(field, over, by), line_scaled(field, under, by)


def lines_plus(field, one, other):
    """Return the sum of two lines."""
    if len(one) < len(other):
        one, other = other, one
    sums = [plus(field, a, b) for a, b in zip(one, other)]
    sums.extend(one[len(other):])
    return trimmed_line(field, sums)


def line_negated(field, line):
    """Return a line taken the other way."""
    return tuple(negated(field, number) for number in line)


def lines_minus(field, one, other):
    """Return the difference of two lines."""
    return lines_plus(field, one, line_negated(field, other))


def line_scaled(field, line, number):
    """Return a line times a number."""
    return trimmed_line(field, [times(field, part, number) for part in line])


def lines_times(field, one, other):
    """Return the product of two lines."""
    if not one or not other:
        return ()
    if isinstance(field, int) and field:
        return mod_times(field, one, other)
    if has_whole_forms(field):
        return whole_times(field, one, other)
    sums = [nought_of(field)] * (len(one) + len(other) - 1)
    for i, a in enumerate(one):
        for j, b in enumerate(other):
            sums[i + j] = plus(field, sums[i + j], times(field, a, b))
    return trimmed_line(field, sums)


def lines_divided(field, line, other):
    """Return the quotient and the rest; ByNought if the last number of the other line has no inverse."""
    if not other:
        raise ByNought("a line by the line nought")
    if isinstance(field, int) and field:
        return mod_divided(field, line, other)
    if has_whole_forms(field):
        return whole_divided(field, line, other)
    by = inverted(field, other[-1])
    rest = list(line)
    quotient = []
    for k in reversed(range(len(line) - len(other) + 1)):
        many = times(field, rest.pop(), by)
        quotient.append(many)
        for i, part in enumerate(other[:-1]):
            rest[k + i] = minus(field, rest[k + i], times(field, many, part))
    return tuple(reversed(quotient)), trimmed_line(field, rest)


def lines_exact(field, line, other):
    """Return the quotient of a line by a monic one that divides it."""
    if len(other) == 1:
        return line
    return lines_divided(field, line, other)[0]


def monic_of(field, line):
    """Return a line by its last number; the line nought stays what it is."""
    if not line or line[-1] == one_of(field):
        return line
    return line_scaled(field, line, inverted(field, line[-1]))


def lines_common(field, one, other):
    """Return the monic greatest common divisor of two lines, () of two noughts."""
    if not one or not other:
        return monic_of(field, one or other)
    if isinstance(field, int) and field:
        return mod_common(field, one, other)
    # A number with roots need not have an inverse: there a short line is looked at, too.
    if min(len(one), len(other)) == 1 and (field == 0 or field[0] == "quot"):
        return (one_of(field),)
    if has_whole_forms(field):
        return whole_common(field, one, other)
    shared = min(first_index(field, one), first_index(field, other))
    found = lowered_common(field, one[shared:], other[shared:])
    return (nought_of(field),) * shared + found


def first_index(field, line):
    """Return the index of the first number that is not nought, of a line that is not nought."""
    index = 0
    while line[index] == nought_of(field):
        index += 1
    return index


def lowered_common(field, one, other):
    """Return the monic greatest common divisor of two lines that the unknown does not divide both."""
    if min(len(one), len(other)) > 2 and are_apart_by_images(field, one, other):
        return (one_of(field),)
    return euclid_common(field, one, other)


def euclid_common(field, one, other):
    """Return the monic greatest common divisor of two lines, not both nought, by Euclid's way."""
    while other:
        one, other = other, monic_of(field, lines_divided(field, one, other)[1])
    return monic_of(field, one)


def line_inverse(field, line, modulus):
    """Return the inverse of a shorter line by a modulus; ByNought if it has none."""
    if isinstance(field, int) and field:
        found = mod_inverse(field, line, modulus)
    elif has_whole_forms(field):
        found = whole_inverse(field, line, modulus)
    else:
        found = euclid_inverse(field, line, modulus)
    if found is None:
        raise ByNought("a line that has no inverse by the modulus")
    return found


def euclid_inverse(field, line, modulus):
    """Return the inverse of a shorter line by a modulus, or None if it has none."""
    row, behind = (modulus, ()), (line, (one_of(field),))
    while len(behind[0]) > 1:
        quotient, rest = lines_divided(field, row[0], behind[0])
        row, behind = behind, (rest, lines_minus(field, row[1], lines_times(field, quotient, behind[1])))
    if not behind[0]:
        return None
    return line_scaled(field, behind[1], inverted(field, behind[0][0]))


def image_field(field, turn, prime):
    """Return the field to which a field is led when numbers stand for the unknowns of its quotients."""
    if isinstance(field, int):
        return prime
    inner = image_field(field[1], turn, prime)
    if field[0] == "quot":
        return inner
    return "root", inner, tuple(number_image(field[1], inner, part, turn, prime) for part in field[2])


def number_image(field, target, number, turn, prime):
    """Return the image, in the field to which its field is led, of a number; ByNought if it has none."""
    if isinstance(field, int):
        return number if field else constant_of(prime, number[0], number[1])
    if field[0] == "root":
        return trimmed_line(target[1], [number_image(field[1], target[1], part, turn, prime) for part in number])
    over = line_image(field[1], target, number[0], turn, prime)
    return times(target, over, inverted(target, line_image(field[1], target, number[1], turn, prime)))


def line_image(field, target, line, turn, prime):
    """Return the image of the value of a line at the number that stands for its unknown."""
    point = constant_of(target, image_point(field, turn, prime), 1)
    found = nought_of(target)
    for part in reversed(line):
        found = plus(target, times(target, found, point), number_image(field, target, part, turn, prime))
    return found


def are_apart_by_images(field, one, other):
    """Tell whether images, in a field that is led to, show that two lines are apart.

    Where the last number of one keeps an inverse, a common divisor would have an image of its degree.
    """
    bottom = bottom_of(field)
    prime = bottom or IMAGE_PRIME
    for turn in range(TRIES if bottom else 1):
        try:
            target = image_field(field, turn, prime)
            if target == field:
                return False
            images = tuple(number_image(field, target, part, turn, prime) for part in one)
            others = tuple(number_image(field, target, part, turn, prime) for part in other)
            images = monic_of(target, images)
            if len(euclid_common(target, images, trimmed_line(target, others))) == 1:
                return True
        except ByNought:
            continue
    return False
