"""Inverses, powers, orders and roots by a modulus, with papers."""

from math import gcd
from towerback.integers import GREATEST, are_integers, inverse_rest, is_integer_in, is_tagged, power_rest
from towerback.needs import need_integer
from towerback.primes import factors_of, shows_factors

GREATEST_FOR_ORDERS = 10 ** 4
GREATEST_FOR_ROOTS = 1000
GREATEST_ROOT = 8


def need_residue(number, modulus, most):
    """Raise InvalidNumber for what are not an integer and a modulus up to a bound."""
    need_integer(number, -GREATEST, GREATEST)
    need_integer(modulus, 2, most)


def no_inverse(number, modulus):
    """Return the paper that a number with a common divisor has no inverse by a modulus."""
    common = gcd(number, modulus)
    return "none", common, number // common, modulus // common


def shows_no_inverse(number, modulus, paper):
    """Tell whether any value is a paper that a number has no inverse by a modulus."""
    if not is_tagged(paper, "none", 4) or not are_integers(paper[1:], 3):
        return False
    common, part, other_part = paper[1:]
    return common > 1 and part * common == number and other_part * common == modulus


def inverse_paper(number, modulus):
    """Return a paper of the inverse of a number by a modulus."""
    need_residue(number, modulus, GREATEST)
    if gcd(number, modulus) > 1:
        return no_inverse(number, modulus)
    return "inverse", inverse_rest(number, modulus)


def takes_inverse(number, modulus, paper):
    """Tell whether any value is a paper of the inverse of a number by a modulus."""
    need_residue(number, modulus, GREATEST)
    if is_tagged(paper, "inverse", 2):
        return is_integer_in(paper[1], 0, modulus - 1) and number * paper[1] % modulus == 1
    return shows_no_inverse(number, modulus, paper)


def power_of(number, power, modulus):
    """Return the rest, from 0 on, of a power by a modulus."""
    need_integer(number, -GREATEST, GREATEST)
    need_integer(power, 0, GREATEST)
    need_integer(modulus, 2, GREATEST)
    return power_rest(number, power, modulus)


def order_of(number, modulus):
    """Return the least exponent from 1 on whose power has the rest 1, for a number with an inverse."""
    exponent = 1
    rest = number % modulus
    while rest != 1:
        rest = rest * number % modulus
        exponent += 1
    return exponent


def order_paper(number, modulus):
    """Return a paper of the order of a number by a modulus."""
    need_residue(number, modulus, GREATEST_FOR_ORDERS)
    if gcd(number, modulus) > 1:
        return no_inverse(number, modulus)
    exponent = order_of(number, modulus)
    return "order", exponent, factors_of(exponent)


def takes_order(number, modulus, paper):
    """Tell whether any value is a paper of the order of a number by a modulus."""
    need_residue(number, modulus, GREATEST_FOR_ORDERS)
    if not is_tagged(paper, "order", 3):
        return shows_no_inverse(number, modulus, paper)
    exponent = paper[1]
    if not is_integer_in(exponent, 1, modulus - 1) or power_rest(number, exponent, modulus) != 1:
        return False
    if not shows_factors(exponent, paper[2]):
        return False
    return all(power_rest(number, exponent // row[0], modulus) != 1 for row in paper[2])


def roots_of(number, power, modulus):
    """Return the ascending tuple of the rests whose power has the rest of a number."""
    need_integer(number, -GREATEST, GREATEST)
    need_integer(power, 1, GREATEST_ROOT)
    need_integer(modulus, 2, GREATEST_FOR_ROOTS)
    rest = number % modulus
    return tuple([root for root in range(modulus) if power_rest(root, power, modulus) == rest])
