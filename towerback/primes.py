"""Primes, factors and divisors of integers, with papers."""

from math import isqrt
from towerback.integers import are_integers, inverse_rest, is_integer_in, is_small_prime, is_tagged
from towerback.needs import need_integer

GREATEST_PRIME = 10 ** 6
GREATEST_BELOW = 10 ** 4


def inverses_of(prime):
    """Return the inverses, mod a prime, of 2, 3 and so on, up to its root."""
    return tuple([inverse_rest(divisor, prime) for divisor in range(2, isqrt(prime) + 1)])


def are_inverses(number, value):
    """Tell whether any value is a tuple of inverses that shows that an integer from 2 on is a prime."""
    if not are_integers(value, isqrt(number) - 1):
        return False
    for k, inverse in enumerate(value):
        if not 1 <= inverse < number or (k + 2) * inverse % number != 1:
            return False
    return True


def least_factor(number, first):
    """Return the least divisor of an integer, at least the first one, or the integer itself."""
    divisor = first
    while divisor * divisor <= number:
        if number % divisor == 0:
            return divisor
        divisor += 1
    return number


def number_paper(number):
    """Return a paper that tells whether an integer is a prime."""
    need_integer(number, 2, GREATEST_PRIME)
    divisor = least_factor(number, 2)
    if divisor == number:
        return "prime", inverses_of(number)
    return "split", divisor, number // divisor


def takes_number(number, paper):
    """Tell whether any value is a paper that tells whether an integer is a prime."""
    need_integer(number, 2, GREATEST_PRIME)
    if is_tagged(paper, "prime", 2):
        return are_inverses(number, paper[1])
    if not is_tagged(paper, "split", 3) or not are_integers(paper[1:], 2):
        return False
    return 1 < paper[1] <= paper[2] and paper[1] * paper[2] == number


def is_prime_number(number):
    """Tell whether an integer is a prime."""
    need_integer(number, 0, GREATEST_PRIME)
    return is_small_prime(number)


def primes_below(number):
    """Return the ascending list of the primes below an integer."""
    need_integer(number, 0, GREATEST_BELOW)
    return [prime for prime in range(2, number) if is_small_prime(prime)]


def factors_of(number):
    """Return the ascending tuple of the triples (prime, exponent, inverses) of an integer."""
    rows = []
    prime = 2
    while number > 1:
        prime = least_factor(number, prime)
        exponent = 0
        while number % prime == 0:
            number //= prime
            exponent += 1
        rows.append((prime, exponent, inverses_of(prime)))
    return tuple(rows)


def factors_paper(number):
    """Return the paper of the prime factors of an integer."""
    need_integer(number, 1, GREATEST_PRIME)
    return factors_of(number)


def is_factor_row(number, value):
    """Tell whether any value is a triple (prime, exponent, inverses), not too great for an integer."""
    if not isinstance(value, tuple) or len(value) != 3 or not is_integer_in(value[0], 2, number):
        return False
    # An exponent above the count of bits would make a power above the number.
    if not is_integer_in(value[1], 1, number.bit_length()):
        return False
    return are_inverses(value[0], value[2])


def shows_factors(number, paper):
    """Tell whether any value is the paper of the prime factors of an integer from 1 on."""
    if not isinstance(paper, tuple):
        return False
    product = 1
    last = 1
    for row in paper:
        if not is_factor_row(number, row) or row[0] <= last:
            return False
        last = row[0]
        for _ in range(row[1]):
            product *= last
    return product == number


def takes_factors(number, paper):
    """Tell whether any value is the paper of the prime factors of an integer."""
    need_integer(number, 1, GREATEST_PRIME)
    return shows_factors(number, paper)


def divisors_of(number):
    """Return the ascending tuple of the divisors of an integer."""
    need_integer(number, 1, GREATEST_PRIME)
    low = [divisor for divisor in range(1, isqrt(number) + 1) if number % divisor == 0]
    return tuple(low + [number // divisor for divisor in reversed(low) if divisor * divisor != number])
