"""Greatest common divisors and least common multiples of integers, with papers."""

from towerback.errors import InvalidRow
from towerback.integers import GREATEST, are_integers, bezout, is_integer_in
from towerback.needs import need_integer

LONGEST_ROW = 6


def need_two_integers(one, other):
    """Raise InvalidNumber for what are not two integers that can be handed in."""
    need_integer(one, -GREATEST, GREATEST)
    need_integer(other, -GREATEST, GREATEST)


def need_integer_row(row):
    """Raise InvalidRow for what is no tuple of 1 to 6 integers that can be handed in."""
    if not isinstance(row, tuple) or not 1 <= len(row) <= LONGEST_ROW:
        raise InvalidRow("this is no tuple of 1 to 6 integers")
    for number in row:
        if not is_integer_in(number, -GREATEST, GREATEST):
            raise InvalidRow("there is no integer that fits in the row")


def gcd_paper(one, other):
    """Return a paper (d, u, v, p, q) of a greatest common divisor."""
    need_two_integers(one, other)
    if one == 0 and other == 0:
        return 0, 0, 0, 0, 0
    common, by_one, by_other = bezout(one, other)
    return common, by_one, by_other, one // common, other // common


def takes_gcd(one, other, paper):
    """Tell whether any value is a paper of a greatest common divisor."""
    need_two_integers(one, other)
    if not are_integers(paper, 5):
        return False
    common, by_one, by_other, part, other_part = paper
    if common < 0 or by_one * one + by_other * other != common:
        return False
    return part * common == one and other_part * common == other


def lcm_of(one, other):
    """Return the paper (m, s, t, u, v) of a least common multiple of any integers."""
    if one == 0:
        return 0, 1, 0, 1, 0
    if other == 0:
        return 0, 0, 1, 0, 1
    common = bezout(one, other)[0]
    multiple = abs(one // common * other)
    by_one = multiple // one
    by_other = multiple // other
    return (multiple, by_one, by_other) + bezout(by_one, by_other)[1:]


def lcm_paper(one, other):
    """Return a paper (m, s, t, u, v) of a least common multiple."""
    need_two_integers(one, other)
    return lcm_of(one, other)


def shows_lcm(one, other, paper):
    """Tell whether any value is a paper of a least common multiple of any integers."""
    if not are_integers(paper, 5):
        return False
    multiple, by_one, by_other, times_one, times_other = paper
    if multiple < 0 or one * by_one != multiple or other * by_other != multiple:
        return False
    return times_one * by_one + times_other * by_other == 1


def takes_lcm(one, other, paper):
    """Tell whether any value is a paper of a least common multiple."""
    need_two_integers(one, other)
    return shows_lcm(one, other, paper)


def gcd_row_of(row):
    """Return the paper (d, multipliers, quotients) of a row of any integers."""
    common = 0
    multipliers = []
    for number in row:
        common, by_others, by_number = bezout(common, number)
        multipliers = [part * by_others for part in multipliers] + [by_number]
    quotients = tuple(number // common if common else 0 for number in row)
    return common, tuple(multipliers), quotients


def gcd_row_paper(row):
    """Return a paper (d, multipliers, quotients) of the greatest common divisor of a row."""
    need_integer_row(row)
    return gcd_row_of(row)


def shows_gcd_row(row, paper):
    """Tell whether any value is a paper of the greatest common divisor of a row of any integers."""
    if not isinstance(paper, tuple) or len(paper) != 3 or not are_integers(paper[:1], 1) or paper[0] < 0:
        return False
    common, multipliers, quotients = paper
    if not are_integers(multipliers, len(row)) or not are_integers(quotients, len(row)):
        return False
    if sum([number * part for number, part in zip(row, multipliers)]) != common:
        return False
    return all([part * common == number for number, part in zip(row, quotients)])


def takes_gcd_row(row, paper):
    """Tell whether any value is a paper of the greatest common divisor of a row."""
    need_integer_row(row)
    return shows_gcd_row(row, paper)
