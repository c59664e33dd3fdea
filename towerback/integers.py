"""Plain integers: what they are, Euclid's way, and rests by a modulus."""

from math import gcd

GREATEST = 10 ** 50 * 10 ** 50


def is_integer(value):
    """Tell whether any value is an integer."""
    return isinstance(value, int) and not isinstance(value, bool)


def is_integer_in(value, low, high):
    """Tell whether any value is an integer from low to high."""
    return is_integer(value) and low <= value <= high


def are_integers(value, many):
    """Tell whether any value is a tuple of so many integers."""
    return isinstance(value, tuple) and len(value) == many and all(is_integer(part) for part in value)


def is_tagged(value, word, many):
    """Tell whether any value is a tuple of so many items that begins with a word."""
    return isinstance(value, tuple) and len(value) == many and isinstance(value[0], str) and value[0] == word


def bezout(one, other):
    """Return (d, u, v): the greatest common divisor d, and u one + v other = d."""
    row = (abs(one), 1, 0)
    behind = (abs(other), 0, 1)
    while behind[0]:
        many = row[0] // behind[0]
        row, behind = behind, tuple([a - many * b for a, b in zip(row, behind)])
    common, by_one, by_other = row
    return common, -by_one if one < 0 else by_one, -by_other if other < 0 else by_other


def inverse_rest(number, modulus):
    """Return the inverse of a number that has one by the modulus."""
    rest, behind = modulus, number % modulus
    by_rest, by_behind = 0, 1
    while behind:
        many = rest // behind
        rest, behind = behind, rest - many * behind
        by_rest, by_behind = by_behind, by_rest - many * by_behind
    return by_rest % modulus


def power_rest(number, power, modulus):
    """Return the rest, from 0 on, of a power."""
    rest = 1 % modulus
    square = number % modulus
    while power:
        if power & 1:
            rest = rest * square % modulus
        square = square * square % modulus
        power >>= 1
    return rest


def integer_power(number, power):
    """Return a power of an integer, with an exponent from 0 on."""
    found = 1
    square = number
    while power:
        if power & 1:
            found *= square
        power >>= 1
        if power:
            square *= square
    return found


def is_small_prime(number):
    """Tell by trial whether an integer is a prime."""
    if number < 2:
        return False
    divisor = 2
    while divisor * divisor <= number:
        if number % divisor == 0:
            return False
        divisor += 1
    return True


def fraction(over, under):
    """Return the quotient of two integers, the under not 0, in lowest terms."""
    common = gcd(over, under)
    if under < 0:
        common = -common
    return over // common, under // common
