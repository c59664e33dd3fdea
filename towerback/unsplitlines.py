"""Monic lines over a prime field that can not be split, in order.

A block are the monic lines that differ in their first number alone; it is told by the numbers behind the first one.
"""

from towerback.errors import InvalidLine
from towerback.integers import integer_power, inverse_rest, power_rest
from towerback.lineroots import rest_of_whole
from towerback.modfactors import is_unsplit_line
from towerback.needs import HIGHEST_DEGREE, need_integer, need_monic, need_prime
from towerback.primes import factors_of
from towerback.rawlines import lines_power

HIGHEST_LISTED = 8


def power_shift(prime, block):
    """Return the number whose line (number, 1) has a power that is in the block, or None."""
    degree = len(block)
    if degree % prime == 0:
        return None
    shift = block[degree - 2] * inverse_rest(degree, prime) % prime
    return shift if lines_power(prime, (shift, 1), degree)[1:] == block else None


def is_unsplit_power(prime, degree, number):
    """Tell whether the unknown to the power of a degree, less a number, can not be split."""
    if degree % 4 == 0 and prime % 4 != 1:
        return False
    for factor, _, _ in factors_of(degree):
        if (prime - 1) % factor or power_rest(number, (prime - 1) // factor, prime) in (0, 1):
            return False
    return True


def first_of_powers(prime, block, shift, first):
    """Return the least first number, at least the one told, of a line of a block with a power that is not split."""
    degree = len(block)
    power = power_rest(shift, degree, prime)
    for number in range(first, prime):
        if is_unsplit_power(prime, degree, power - number):
            return number
    return None


def rooted_numbers(prime, block):
    """Return the list that tells of each number of a prime field whether the line of a block with it has a root."""
    rooted = [False] * prime
    for root in range(prime):
        rooted[-root * rest_of_whole(block, root, prime) % prime] = True
    return rooted


def first_in_block(prime, block, first):
    """Return the least first number, from one on, with which a block has a line that is not split, or None."""
    degree = len(block)
    if first == prime or degree == 1:
        return None if first == prime else first
    shift = power_shift(prime, block)
    if shift is not None:
        # In such a block there may be none, and then each line would be tried.
        return first_of_powers(prime, block, shift, first)
    rooted = rooted_numbers(prime, block)
    for number in range(first, prime):
        if not rooted[number] and (degree < 4 or is_unsplit_line(prime, (number,) + block)):
            return number
    return None


def next_block(prime, block):
    """Return the next block of the same degree, or None behind the last one."""
    at = 0
    while at < len(block) - 1:
        if block[at] < prime - 1:
            return (0,) * at + (block[at] + 1,) + block[at + 1:]
        at += 1
    return None


def first_from(prime, block, first):
    """Return the first line that is not split, of a block from a first number on, or of the blocks behind, or None."""
    while block is not None:
        number = first_in_block(prime, block, first)
        if number is not None:
            return (number,) + block
        block, first = next_block(prime, block), 0
    return None


def first_unsplit(prime, degree):
    """Return the first monic line of a degree that can not be split."""
    need_prime(prime)
    need_integer(degree, 1, HIGHEST_LISTED)
    return first_from(prime, (0,) * (degree - 1) + (1,), 0)


def next_unsplit(prime, line):
    """Return the first monic line, behind a monic line, of the same degree that can not be split, or None."""
    need_monic(prime, line)
    if len(line) > HIGHEST_LISTED + 1:
        raise InvalidLine("the degree of the line is too high")
    return first_from(prime, line[1:], line[0] + 1)


def count_unsplit(prime, degree):
    """Return how many monic lines of a degree can not be split."""
    need_prime(prime)
    need_integer(degree, 1, HIGHEST_DEGREE)
    total = 0
    for divisor in range(1, degree + 1):
        if degree % divisor == 0:
            total += sign_of_divisor(divisor) * integer_power(prime, degree // divisor)
    return total // degree


def sign_of_divisor(divisor):
    """Return 0 for an integer that a square divides, else 1 or -1, as it has an even number of prime factors or not."""
    sign = 1
    for _, exponent, _ in factors_of(divisor):
        sign = 0 if exponent > 1 else -sign
    return sign
