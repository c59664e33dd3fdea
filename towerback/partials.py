"""Partial fractions of lines, with papers."""

from towerback.chains import apart_times, common_rows
from towerback.errors import ByNought, InvalidBase, InvalidParts, TooMany
from towerback.forms import are_lines, has_line_form, is_given_line, is_monic
from towerback.integers import are_integers, is_integer_in, is_tagged
from towerback.linegcd import come_to, shows_common
from towerback.needs import need_field, need_line, need_two_lines
from towerback.rawlines import lines_power
from towerback.rawways import line_inverse, lines_common, lines_divided, lines_minus, lines_plus, lines_times, one_of

MOST_PARTS = 6
MOST_TIMES = 6
MOST_DEGREES = 30


def need_not_nought(line):
    """Raise ByNought for the line nought."""
    if line == ():
        raise ByNought("a line by the line nought")


def need_over_and_parts(field, over, parts):
    """Raise the errors of a field, a line over it, and parts of a fraction."""
    need_field(field)
    need_line(field, over)
    if not isinstance(parts, tuple) or not 1 <= len(parts) <= MOST_PARTS:
        raise InvalidParts("these are not 1 to 6 parts")
    for part in parts:
        if not is_part(field, part):
            raise InvalidParts("there is a part that is none")
    if sum([(len(line) - 1) * times for line, times in parts]) > MOST_DEGREES:
        raise TooMany(MOST_DEGREES)


def is_part(field, value):
    """Tell whether any value is a pair of a monic line, of degree 1 or more, and of times from 1 to 6."""
    if not isinstance(value, tuple) or len(value) != 2 or not is_integer_in(value[1], 1, MOST_TIMES):
        return False
    return is_given_line(field, value[0]) and is_monic(field, value[0])


def digits_by(field, line, base):
    """Return the list of the lines, shorter than a base, that times its powers come to a line; the last is not ()."""
    digits = []
    while line:
        line, digit = lines_divided(field, line, base)
        digits.append(digit)
    return digits


def digits_of(field, line, base):
    """Return the tuple of the lines, shorter than a base, that times its powers come to a line."""
    need_two_lines(field, line, base)
    need_not_nought(base)
    if len(base) == 1:
        raise InvalidBase("the base has no degree from 1 on")
    return tuple(digits_by(field, line, base))


def split_two(field, over, one, other):
    """Return the triple (whole, a, b) with over = whole one other + a other + b one, or None."""
    need_field(field)
    need_line(field, over)
    need_line(field, one)
    need_not_nought(one)
    need_line(field, other)
    need_not_nought(other)
    if len(lines_common(field, one, other)) > 1:
        return None
    by_one = apart_times(field, one, other)[1]
    first = lines_divided(field, lines_times(field, over, by_one), one)[1]
    left = lines_divided(field, lines_minus(field, over, lines_times(field, first, other)), one)[0]
    whole, second = lines_divided(field, left, other)
    return whole, first, second


def part_pairs(parts):
    """Return the list of the pairs of indices of two parts, in order."""
    return [(i, j) for i in range(len(parts)) for j in range(i + 1, len(parts))]


def first_common(field, parts):
    """Return the first pair of indices of two parts that are not apart, or None."""
    for i, j in part_pairs(parts):
        if len(lines_common(field, parts[i][0], parts[j][0])) > 1:
            return i, j
    return None


def product_of_powers(field, parts):
    """Return the product of all parts to the powers of their times."""
    product = (one_of(field),)
    for part, times in parts:
        product = lines_times(field, product, lines_power(field, part, times))
    return product


def row_of_part(field, rest, others, part, times):
    """Return the row of a part, of a line over the power of the part and all others."""
    power = lines_power(field, part, times)
    by_others = line_inverse(field, lines_divided(field, others, power)[1], power)
    above = lines_divided(field, rest, power)[1]
    above = lines_divided(field, lines_times(field, above, by_others), power)[1]
    digits = digits_by(field, above, part)
    return tuple(reversed(digits + [()] * (times - len(digits))))


def fractions_of(field, over, parts):
    """Return the partial fractions of a line over parts of which each two are apart."""
    whole, rest = lines_divided(field, over, product_of_powers(field, parts))
    rows = []
    for at, (part, times) in enumerate(parts):
        others = product_of_powers(field, parts[:at] + parts[at + 1:])
        rows.append(row_of_part(field, rest, others, part, times))
    return whole, tuple(rows)


def partials(field, over, parts):
    """Return the partial fractions of a line over parts, or None if two of these are not apart."""
    need_over_and_parts(field, over, parts)
    return fractions_of(field, over, parts) if first_common(field, parts) is None else None


def is_row_of_part(field, value, part, times):
    """Tell whether any value is a tuple of so many lines, all shorter than a part."""
    return are_lines(field, value, times) and all(len(line) < len(part) for line in value)


def shows_partials(field, over, parts, value):
    """Tell whether any value is partial fractions of a line over parts."""
    if not isinstance(value, tuple) or len(value) != 2 or not has_line_form(field, value[0]):
        return False
    whole, rows = value
    if not isinstance(rows, tuple) or len(rows) != len(parts):
        return False
    for row, (part, times) in zip(rows, parts):
        if not is_row_of_part(field, row, part, times):
            return False
    product = product_of_powers(field, parts)
    # What stands above the product beside the whole is shorter than it.
    if len(whole) != max(0, len(over) - len(product) + 1):
        return False
    found = lines_times(field, whole, product)
    for at, (row, (part, _)) in enumerate(zip(rows, parts)):
        above = ()
        for line in row:
            above = lines_plus(field, lines_times(field, above, part), line)
        others = product_of_powers(field, parts[:at] + parts[at + 1:])
        found = lines_plus(field, found, lines_times(field, above, others))
    return found == over


def is_partials(field, over, parts, value):
    """Tell whether any value is partial fractions of a line over parts."""
    need_over_and_parts(field, over, parts)
    return shows_partials(field, over, parts, value)


def partials_paper(field, over, parts):
    """Return a paper of the partial fractions of a line over parts, or that two of these are not apart."""
    need_over_and_parts(field, over, parts)
    common = first_common(field, parts)
    if common is not None:
        i, j = common
        return "common", i, j, common_rows(field, parts[i][0], parts[j][0])
    cofactors = [apart_times(field, parts[i][0], parts[j][0]) for i, j in part_pairs(parts)]
    return ("fractions",) + fractions_of(field, over, parts) + (tuple(cofactors),)


def is_partials_paper(field, over, parts, value):
    """Tell whether any value is a paper of the partial fractions of a line over parts."""
    need_over_and_parts(field, over, parts)
    if is_tagged(value, "common", 4):
        return shows_common_parts(field, parts, value)
    if not is_tagged(value, "fractions", 4) or not shows_partials(field, over, parts, value[1:3]):
        return False
    pairs = part_pairs(parts)
    if not isinstance(value[3], tuple) or len(value[3]) != len(pairs):
        return False
    for (i, j), lines in zip(pairs, value[3]):
        if not are_lines(field, lines, 2):
            return False
        if not come_to(field, (lines[0], parts[i][0]), (lines[1], parts[j][0]), (one_of(field),)):
            return False
    return True


def shows_common_parts(field, parts, value):
    """Tell whether a tuple of four items is a paper that two of the parts are not apart."""
    if not are_integers(value[1:3], 2) or not 0 <= value[1] < value[2] < len(parts):
        return False
    one, other = parts[value[1]][0], parts[value[2]][0]
    return shows_common(field, one, other, value[3]) and len(value[3][0]) > 1
