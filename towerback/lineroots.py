"""Roots of lines over the fractions and over prime fields, with papers."""

from math import lcm
from towerback.errors import TooMany, UnfitField
from towerback.integers import are_integers, fraction, inverse_rest, is_integer, is_integer_in, is_small_prime
from towerback.modlines import mod_common, mod_plus, trimmed
from towerback.needs import HIGHEST_DEGREE, need_field, need_filled_line
from towerback.rawlines import line_value, rest_power
from towerback.rawways import lines_divided
from towerback.squarefree import product_of_parts, shows_squarefree, split_line, squarefree_of

GREATEST_PRIME = 200000


def need_rooted(field, line):
    """Raise the errors of a field, 0 or a prime, and of a line over it that must not be nought."""
    need_field(field)
    if isinstance(field, tuple):
        raise UnfitField("the field is neither 0 nor a prime")
    need_filled_line(field, line)
    if field == 0 and len(line) > HIGHEST_DEGREE + 1:
        raise TooMany(HIGHEST_DEGREE)


def roots_of(field, line):
    """Return the tuple of the pairs (root, times) of a line, by ascending value of the roots."""
    need_rooted(field, line)
    if field:
        return mod_roots(field, line)
    parts = split_line(0, line)[1]
    prime, _, lifts = lifts_of(parts)
    return told_roots(parts, prime, lifts)


def roots_paper(field, line):
    """Return the paper of the roots of a line."""
    need_rooted(field, line)
    if field:
        return ()
    paper = squarefree_of(0, line)
    return (paper,) + lifts_of(paper[1])


def judged_roots(field, line, value):
    """Return the tuple of the pairs (root, times) of a line if any value is a paper of its roots, otherwise None."""
    need_rooted(field, line)
    if field:
        return mod_roots(field, line) if value == () else None
    return told_roots(value[0][1], value[1], value[3]) if shows_roots(line, value) else None


def slope_of_whole(line):
    """Return the derivative of a line of integers, with noughts at its end, if there are any."""
    return tuple([at * number for at, number in enumerate(line)][1:])


def value_of_whole(line, number):
    """Return the value of a line of integers at an integer."""
    found = 0
    for part in reversed(line):
        found = found * number + part
    return found


def rest_of_whole(line, number, modulus):
    """Return the rest by a modulus of the value of a line of integers at an integer."""
    found = 0
    for part in reversed(line):
        found = (found * number + part) % modulus
    return found


def mod_of_whole(prime, line):
    """Return the line over a prime field that a line of integers is."""
    return trimmed([number % prime for number in line])


def rooted_part(prime, line):
    """Return the product of (this number taken the other way, one), once for each root of a line over a prime field."""
    if len(line) == 1:
        return (1,)
    power = rest_power(prime, (0, 1), prime, line)
    return mod_common(prime, line, mod_plus(prime, power, (0, prime - 1)))


def numbers_at_nought(prime, line):
    """Return the ascending list of the numbers of a prime field at which a line is nought."""
    part = rooted_part(prime, line)
    found = []
    number = 0
    while len(found) < len(part) - 1:
        if rest_of_whole(part, number, prime) == 0:
            found.append(number)
        number += 1
    return found


def mod_roots(prime, line):
    """Return the tuple of the pairs (root, times) of a line over a prime field."""
    found = []
    for root in numbers_at_nought(prime, line):
        times = 0
        quotient, rest = lines_divided(prime, line, (-root % prime, 1))
        while not rest:
            times += 1
            quotient, rest = lines_divided(prime, quotient, (-root % prime, 1))
        found.append((root, times))
    return tuple(found)


def cleared_radical(line):
    """Return a scale for a monic line over the fractions, and the line of integers with its roots times the scale."""
    scale = 1
    for number in line:
        scale = lcm(scale, number[1])
    numbers = [1]
    power = 1
    for over, under in reversed(line[:-1]):
        power *= scale
        numbers.append(power // under * over)
    return scale, tuple(reversed(numbers))


def is_fit_prime(prime, whole):
    """Tell whether no number is nought, mod a prime, of a monic line of integers and of its derivative."""
    common = mod_common(prime, mod_of_whole(prime, whole), mod_of_whole(prime, slope_of_whole(whole)))
    return len(rooted_part(prime, common)) == 1


def least_fit_prime(whole):
    """Return the least prime that is fit for a monic line of integers."""
    prime = 2
    while not is_small_prime(prime) or not is_fit_prime(prime, whole):
        prime += 1
    return prime


def least_power(prime, whole):
    """Return the least exponent with which a prime is above the bound of a line of integers, and the power."""
    bound = 2 + 2 * max([abs(number) for number in whole])
    squares = [prime]
    while squares[-1] <= bound:
        squares.append(squares[-1] * squares[-1])
    exponent, power = 0, 1
    for at in reversed(range(len(squares))):
        if power * squares[at] <= bound:
            exponent += 1 << at
            power *= squares[at]
    return exponent + 1, power * prime


def lifted_root(whole, root, prime, power):
    """Return the integer from 0 on, below a power of a prime, to which a root mod the prime is lifted."""
    slope = slope_of_whole(whole)
    by_slope = inverse_rest(rest_of_whole(slope, root, prime), prime)
    modulus = prime
    while modulus < power:
        modulus = min(modulus * modulus, power)
        root = (root - rest_of_whole(whole, root, modulus) * by_slope) % modulus
        by_slope = by_slope * (2 - rest_of_whole(slope, root, modulus) * by_slope) % modulus
    return root


def lifts_of(parts):
    """Return the triple (prime, exponent, lifts) for the square-free parts of a line over the fractions."""
    whole = cleared_radical(product_of_parts(0, parts))[1]
    prime = least_fit_prime(whole)
    exponent, power = least_power(prime, whole)
    roots = numbers_at_nought(prime, mod_of_whole(prime, whole))
    return prime, exponent, tuple([lifted_root(whole, root, prime, power) for root in roots])


def shows_roots(line, value):
    """Tell whether any value is a paper of the roots of a line over the fractions."""
    if not isinstance(value, tuple) or len(value) != 4 or not shows_squarefree(0, line, value[0]):
        return False
    paper, prime, exponent, lifts = value
    if not is_integer_in(prime, 2, GREATEST_PRIME) or not is_small_prime(prime) or not is_integer(exponent):
        return False
    whole = cleared_radical(product_of_parts(0, paper[1]))[1]
    least, power = least_power(prime, whole)
    return exponent == least and are_lifts(whole, prime, power, lifts)


def are_lifts(whole, prime, power, value):
    """Tell whether a prime is fit for a line of integers, and any value is the tuple of the lifts mod a power of it."""
    # A root of the derivative, too, would be a lift more than there are numbers that can be lifted.
    many = len(rooted_part(prime, mod_of_whole(prime, whole))) - 1
    if not are_integers(value, many):
        return False
    slope = slope_of_whole(whole)
    last = -1
    for lift in value:
        if not 0 <= lift < power or lift % prime <= last:
            return False
        last = lift % prime
        if rest_of_whole(whole, lift, power) or not rest_of_whole(slope, last, prime):
            return False
    return True


def told_roots(parts, prime, lifts):
    """Return the tuple of the pairs (root, times) of a line, from its square-free parts and the lifts mod a prime."""
    scale, whole = cleared_radical(product_of_parts(0, parts))
    power = least_power(prime, whole)[1]
    near = [lift - power if 2 * lift > power else lift for lift in lifts]
    roots = [fraction(number, scale) for number in sorted(near) if value_of_whole(whole, number) == 0]
    return tuple([(root, times) for root in roots for part, times in parts if line_value(0, part, root) == (0, 1)])
