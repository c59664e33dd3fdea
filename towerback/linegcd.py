"""Greatest common divisors of lines by Euclid's way, with papers; inverses by lines, least multiples."""

from towerback.chains import common_rows, ring_form, ring_one, sorted_chain, told_line, told_times
from towerback.errors import InvalidBase
from towerback.forms import are_lines
from towerback.needs import need_line, need_two_lines
from towerback.rawways import inverted, line_scaled, lines_divided, lines_minus, lines_plus, lines_times, one_of, times
from towerback.wholeforms import has_whole_forms, may_be_sum


def scaled_row(field, row):
    """Return a row of Euclid's way, multiplied by the inverse of its rest's last number."""
    if not row[0]:
        return row
    by = inverted(field, row[0][-1])
    return tuple(line_scaled(field, line, by) for line in row)


def chain_rows(field, one, other):
    """Return the rows of Euclid's way of two lines, not (), whose rests are shorter than both and not ()."""
    above, beside = ring_form(field, one), ring_form(field, other)
    shortest = min(len(one), len(other))
    rows = []
    for _, line, by_line in sorted_chain(field, above[0], beside[0], ring_one(field)):
        if len(line) < shortest:
            shortest = len(line)
            pair = told_times(field, above, beside, (line, by_line), line[-1])
            rows.append((told_line(field, line, line[-1]),) + pair)
    return rows


def last_row(field, before, row):
    """Return the last row of Euclid's way, behind two rows the second one's rest of which divides the first one's."""
    quotient = lines_divided(field, before[0], row[0])[0]
    first, second = [lines_minus(field, before[at], lines_times(field, quotient, row[at])) for at in (1, 2)]
    return (), first, second


def euclid_rows(field, one, other):
    """Return the list of the rows of Euclid's way."""
    need_two_lines(field, one, other)
    unit = (one_of(field),)
    rows = [scaled_row(field, (one, unit, ())), scaled_row(field, (other, (), unit))]
    if not other:
        return rows
    if len(one) < len(other):
        rows.append(rows[0])
    if not one:
        return rows
    rows.extend(chain_rows(field, one, other))
    rows.append(last_row(field, rows[-2], rows[-1]))
    return rows


def common_paper(field, one, other):
    """Return the paper (d, u, v, a, b) of the greatest common divisor of two lines."""
    need_two_lines(field, one, other)
    return common_rows(field, one, other)


def is_common_paper(field, one, other, value):
    """Tell whether any value is a paper of the greatest common divisor of two lines."""
    need_two_lines(field, one, other)
    return shows_common(field, one, other, value)


def shows_common(field, one, other, value):
    """Tell whether any value is a paper of the greatest common divisor of two lines."""
    if not are_lines(field, value, 5):
        return False
    common, first, second, above, beside = value
    if common and common[-1] != one_of(field):
        return False
    if lines_times(field, above, common) != one or lines_times(field, beside, common) != other:
        return False
    return come_to(field, (first, one), (second, other), common)


def come_to(field, first, second, wished):
    """Tell whether the products of two pairs of lines come to a line."""
    # Great lines that come to something else are refused by numbers in the unknowns' place.
    if has_whole_forms(field) and not may_be_sum(field, (first, second), wished):
        return False
    found = lines_plus(field, lines_times(field, first[0], first[1]), lines_times(field, second[0], second[1]))
    return found == wished


def pair_for(field, one, other, wished):
    """Return the pair (u, v) with u one + v other = wished, u as short as can be, and then v, or None."""
    common, first, _, above, beside = common_rows(field, one, other)
    if not common:
        return None if wished else ((), ())
    quotient, rest = lines_divided(field, wished, common)
    if rest:
        return None
    first = lines_times(field, quotient, first)
    if not beside:
        return first, ()
    first = lines_divided(field, first, beside)[1]
    return first, lines_divided(field, lines_minus(field, quotient, lines_times(field, first, above)), beside)[0]


def solved_pair(field, one, other, wished):
    """Return the pair (u, v) with u one + v other = wished, u as short as can be, and then v, or None."""
    need_two_lines(field, one, other)
    need_line(field, wished)
    return pair_for(field, one, other, wished)


def inverse_line(field, line, modulus):
    """Return the line, shorter than a modulus, whose product with a line leaves the rest one by it, or None."""
    need_two_lines(field, line, modulus)
    if len(modulus) < 2:
        raise InvalidBase("the modulus has no degree from 1 on")
    common, first = common_rows(field, line, modulus)[:2]
    return first if len(common) == 1 else None


def least_multiple(field, one, other):
    """Return the triple (m, a, b) of the least multiple m = a one = b other of two lines."""
    need_two_lines(field, one, other)
    if not one or not other:
        return (), (), ()
    above, beside = common_rows(field, one, other)[3:]
    by = inverted(field, times(field, one[-1], other[-1]))
    first = line_scaled(field, beside, by)
    return lines_times(field, one, first), first, line_scaled(field, above, by)
