"""Numbers that come to given rests by given moduli, with papers."""

from towerback.errors import InvalidRow
from towerback.integers import GREATEST, are_integers, bezout, is_integer_in, is_tagged
from towerback.needs import need_integer
from towerback.wholes import gcd_row_of, lcm_of, shows_gcd_row, shows_lcm

LONGEST_ROW = 6


def need_two_residues(one, by_one, other, by_other):
    """Raise InvalidNumber for what are not two numbers, each with its modulus."""
    need_integer(one, -GREATEST, GREATEST)
    need_integer(by_one, 1, GREATEST)
    need_integer(other, -GREATEST, GREATEST)
    need_integer(by_other, 1, GREATEST)


def is_residue(value):
    """Tell whether any value is a pair of a number and a modulus."""
    if not isinstance(value, tuple) or len(value) != 2:
        return False
    return is_integer_in(value[0], -GREATEST, GREATEST) and is_integer_in(value[1], 1, GREATEST)


def need_residues(pairs):
    """Raise InvalidRow for what is no tuple of 1 to 6 pairs of a number and a modulus."""
    if not isinstance(pairs, tuple) or not 1 <= len(pairs) <= LONGEST_ROW:
        raise InvalidRow("this is no tuple of 1 to 6 pairs")
    for pair in pairs:
        if not is_residue(pair):
            raise InvalidRow("there is no number with its modulus in the row")


def joined_of(one, by_one, other, by_other):
    """Return the pair of the least number from 0 on that comes to both, and of the least multiple, or None."""
    common, times_one, _ = bezout(by_one, by_other)
    if (one - other) % common:
        return None
    least = by_one // common * by_other
    return (one + by_one * times_one * ((other - one) // common)) % least, least


def not_joined(by_one, by_other):
    """Return the paper that no number comes to both, for numbers to which none does."""
    common = bezout(by_one, by_other)[0]
    return "none", common, by_one // common, by_other // common


def joined_paper(one, by_one, other, by_other):
    """Return a paper of a number that comes to two numbers by their moduli."""
    need_two_residues(one, by_one, other, by_other)
    joined = joined_of(one, by_one, other, by_other)
    if joined is None:
        return not_joined(by_one, by_other)
    number, least = joined
    return "joined", number, least, (number - one) // by_one, (number - other) // by_other, lcm_of(by_one, by_other)


def shows_not_joined(one, by_one, other, by_other, paper):
    """Tell whether any value is a paper that no number comes to both."""
    if not is_tagged(paper, "none", 4) or not are_integers(paper[1:], 3):
        return False
    common, part, other_part = paper[1:]
    if common < 1 or part * common != by_one or other_part * common != by_other:
        return False
    return (one - other) % common != 0


def takes_joined(one, by_one, other, by_other, paper):
    """Tell whether any value is a paper of a number that comes to two numbers by their moduli."""
    need_two_residues(one, by_one, other, by_other)
    if not is_tagged(paper, "joined", 6):
        return shows_not_joined(one, by_one, other, by_other, paper)
    if not are_integers(paper[1:5], 4) or not shows_lcm(by_one, by_other, paper[5]):
        return False
    number, least, by_first, by_second = paper[1:5]
    if not 0 <= number < least or paper[5][0] != least:
        return False
    return number == one + by_one * by_first and number == other + by_other * by_second


def unjoined_paper(pairs):
    """Return a paper of two pairs that can not be joined, or None if each two can."""
    for j, (other, by_other) in enumerate(pairs):
        for i, (one, by_one) in enumerate(pairs[:j]):
            if joined_of(one, by_one, other, by_other) is None:
                return "none", i, j, not_joined(by_one, by_other)
    return None


def joined_row_paper(pairs):
    """Return a paper of a number that comes to the numbers of a row by their moduli."""
    need_residues(pairs)
    paper = unjoined_paper(pairs)
    if paper is not None:
        return paper
    joined = 0, 1
    for number, modulus in pairs:
        joined = joined_of(joined[0], joined[1], number, modulus)
    number, least = joined
    quotients = tuple(least // pair[1] for pair in pairs)
    return "joined", number, least, quotients, gcd_row_of(quotients)


def shows_row_not_joined(pairs, paper):
    """Tell whether any value is a paper of two pairs that can not be joined."""
    if not is_tagged(paper, "none", 4) or not are_integers(paper[1:3], 2):
        return False
    if not 0 <= min(paper[1:3]) or not max(paper[1:3]) < len(pairs):
        return False
    one, by_one = pairs[paper[1]]
    other, by_other = pairs[paper[2]]
    return shows_not_joined(one, by_one, other, by_other, paper[3])


def takes_joined_row(pairs, paper):
    """Tell whether any value is a paper of a number that comes to the numbers of a row by their moduli."""
    need_residues(pairs)
    if not is_tagged(paper, "joined", 5):
        return shows_row_not_joined(pairs, paper)
    if not are_integers(paper[1:3], 2) or not are_integers(paper[3], len(pairs)):
        return False
    number, least, quotients = paper[1:4]
    if not 0 <= number < least:
        return False
    for pair, quotient in zip(pairs, quotients):
        if quotient * pair[1] != least or (number - pair[0]) % pair[1]:
            return False
    return shows_gcd_row(quotients, paper[4]) and paper[4][0] == 1
