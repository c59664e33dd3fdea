"""Judges of papers of whole lines that can't be split, and of their splittings."""

from towerback.forms import is_pair, is_prime_field
from towerback.integers import integer_power, is_integer, is_integer_in, is_tagged
from towerback.lifts import is_good, is_lift_of, parts_mod
from towerback.lineroots import mod_of_whole
from towerback.lots import dividing_lot, power_above
from towerback.modpapers import is_unsplit_paper
from towerback.nested import nested_times
from towerback.wholeways import WHOLE, is_primitive, is_whole, need_filled_whole, whole_content

MOST_POWER = 10 ** 4


def are_unsplit_papers(prime, parts, value):
    """Tell whether any value is a tuple of an unsplit paper for each part mod a prime."""
    if not isinstance(value, tuple) or len(value) != len(parts):
        return False
    for part, paper in zip(parts, value):
        if not is_unsplit_paper(prime, part, paper):
            return False
    return True


def is_unsplit_paper_of(line, value):
    """Tell whether any value is a paper that a primitive line with the unknown can't be split."""
    if len(line) == 2:
        return is_tagged(value, "first", 1)
    if not is_tagged(value, "lots", 5) or not is_prime_field(value[1]) or not is_integer_in(value[2], 1, MOST_POWER):
        return False
    _, prime, power, lift, papers = value
    if not is_good(line, prime):
        return False
    least = power_above(line, prime)
    if power < least or not is_lift_of(line, prime, power, lift):
        return False
    if not are_unsplit_papers(prime, parts_mod(line, prime), papers):
        return False
    # Whether a lot has the parts of a divisor does not depend on the power, from the least one on.
    modulus = integer_power(prime, least)
    return dividing_lot(line, modulus, tuple(mod_of_whole(modulus, part) for part in lift)) is None


def whole_power(line, power):
    """Return a power of a whole line, with an exponent from 1 on."""
    found = line
    for _ in range(power - 1):
        found = nested_times(WHOLE, found, line)
    return found


def is_splitting(line, value):
    """Tell whether any value is a splitting of a whole line that is not nought."""
    if not is_pair(value) or not is_integer(value[0]) or value[0] != whole_content(line):
        return False
    if not are_counted(value[1], len(line) - 1):
        return False
    product = (value[0],)
    for part, times, _ in value[1]:
        product = nested_times(WHOLE, product, whole_power(part, times))
    return product == line and all(is_unsplit_paper_of(part, paper) for part, _, paper in value[1])


def are_counted(value, degree):
    """Tell whether any value are triples (primitive line, times, any value), ascending, of a degree in all."""
    if not isinstance(value, tuple):
        return False
    last = ()
    for row in value:
        if not isinstance(row, tuple) or len(row) != 3 or not is_integer_in(row[1], 1, degree):
            return False
        if not is_whole(row[0]) or not is_primitive(row[0]) or (last and row[0] <= last):
            return False
        last = row[0]
        degree -= row[1] * (len(last) - 1)
    return degree == 0


def shows_unsplit_whole(line, value):
    """Tell whether any value is a paper that a whole line is primitive, has the unknown, and can't be split."""
    need_filled_whole(line)
    return is_primitive(line) and is_unsplit_paper_of(line, value)


def shows_whole_split(line, value):
    """Tell whether any value is a splitting of a whole line."""
    need_filled_whole(line)
    return is_splitting(line, value)
