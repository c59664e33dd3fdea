"""Small fractions that come to a number by a modulus, with papers."""

from towerback.integers import GREATEST, are_integers, is_tagged
from towerback.needs import need_integer


def need_bounds(modulus, number, over, under):
    """Raise InvalidNumber for what are not a modulus, a rest by it, and two bounds."""
    need_integer(modulus, 2, GREATEST)
    need_integer(number, 0, modulus - 1)
    need_integer(over, 0, GREATEST)
    need_integer(under, 1, GREATEST)


def rows_at_bound(modulus, number, over):
    """Return the first row (r, t, s) of Euclid's way, but the modulus, whose r is up to a bound, behind the last one.

    Each r is t times the number and s times the modulus.
    """
    row = (modulus, 0, 1)
    behind = (number, 1, 0)
    while behind[0] > over:
        many = row[0] // behind[0]
        row, behind = behind, tuple([a - many * b for a, b in zip(row, behind)])
    return row, behind


def back_paper(modulus, number, over, under):
    """Return a paper of a fraction within bounds that comes to a number by a modulus."""
    need_bounds(modulus, number, over, under)
    row, behind = rows_at_bound(modulus, number, over)
    rest, by_number, by_modulus = behind
    if abs(by_number) > under:
        return "none", row, behind
    if by_number < 0:
        return "back", -rest, -by_number, by_modulus
    return "back", rest, by_number, -by_modulus


def shows_no_fraction(modulus, number, over, under, row, behind):
    """Tell whether two triples of integers show that no fraction is within the bounds."""
    for rest, by_number, by_modulus in (row, behind):
        if rest != by_number * number + by_modulus * modulus:
            return False
    if row[0] <= over or behind[0] < 0 or abs(behind[1]) <= under or row[1] * behind[1] > 0:
        return False
    return row[0] * abs(behind[1]) + behind[0] * abs(row[1]) == modulus


def takes_back(modulus, number, over, under, paper):
    """Tell whether any value is a paper of a fraction within bounds that comes to a number by a modulus."""
    need_bounds(modulus, number, over, under)
    if is_tagged(paper, "none", 3) and are_integers(paper[1], 3) and are_integers(paper[2], 3):
        return shows_no_fraction(modulus, number, over, under, paper[1], paper[2])
    if not is_tagged(paper, "back", 4) or not are_integers(paper[1:], 3):
        return False
    above, below, times = paper[1:]
    if above != number * below - times * modulus:
        return False
    return -over <= above <= over and 1 <= below <= under
