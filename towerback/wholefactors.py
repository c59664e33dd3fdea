"""Whole lines split into lines that can not be split, with papers."""

from towerback.degreeparts import split_by_degrees
from towerback.errors import InvalidLine
from towerback.forms import LAST_PRIME
from towerback.integers import integer_power, is_small_prime
from towerback.lifts import is_good, lift_of, parts_mod
from towerback.lineroots import mod_of_whole, slope_of_whole
from towerback.lots import dividing_lot, power_above
from towerback.modfactors import unsplit_papers
from towerback.modlines import mod_monic
from towerback.needs import need_line
from towerback.nested import nested_exact
from towerback.nestedcommon import nested_common
from towerback.squarefree import split_line
from towerback.wholeways import WHOLE, cleared, fraction_line, is_given_whole, need_filled_whole, need_primitive
from towerback.wholeways import shared_line, whole_content

PRIMES_LOOKED_AT = 6
FIRST = ("first",)


def count_parts(line, prime):
    """Return how many parts a line has mod a prime that is good for it."""
    many = 0
    for degree, product in split_by_degrees(prime, mod_monic(prime, mod_of_whole(prime, line))):
        many += (len(product) - 1) // degree
    return many


def fittest_prime(line):
    """Return the prime, of the first ones that are good for a line without a part twice, with the fewest parts."""
    found, fewest, looked = None, len(line), 0
    prime = 2
    # Only for lines that are too great to be handed in a greater prime may be looked for.
    while (found is None or prime <= LAST_PRIME) and looked < PRIMES_LOOKED_AT and fewest > 1:
        if is_small_prime(prime) and is_good(line, prime):
            looked += 1
            many = count_parts(line, prime)
            if many < fewest:
                found, fewest = prime, many
        prime += 1
    return found


def unsplit_divisors(line):
    """Return the list of the lines that can't be split whose product a primitive line without a part twice is."""
    if len(line) == 2:
        return [line]
    prime = fittest_prime(line)
    power = power_above(line, prime)
    modulus = integer_power(prime, power)
    lift = lift_of(line, prime, parts_mod(line, prime), power)
    found = []
    # A divisor of what is left divides the line, too: so the power stays great enough.
    pair = dividing_lot(line, modulus, lift)
    while pair is not None:
        found.append(pair[1])
        line = nested_exact(WHOLE, line, pair[1])
        lift = tuple([part for at, part in enumerate(lift) if at not in pair[0]])
        pair = dividing_lot(line, modulus, lift)
    return found + [line]


def paper_of_unsplit(line):
    """Return the paper that a primitive line without a part twice can't be split, or None if it can."""
    if len(line) == 2:
        return FIRST
    prime = fittest_prime(line)
    power = power_above(line, prime)
    parts = parts_mod(line, prime)
    lift = lift_of(line, prime, parts, power)
    if dividing_lot(line, integer_power(prime, power), lift) is not None:
        return None
    return "lots", prime, power, lift, unsplit_papers(prime, parts)


def is_divided_twice(line):
    """Tell whether a whole line of degree 1 or more has a part twice."""
    return len(nested_common(WHOLE, line, slope_of_whole(line))) > 1


def divisor_rows(line):
    """Return the ascending list of the pairs (part, times) of a primitive whole line."""
    rows = []
    for product, times in split_line(0, fraction_line(line))[1]:
        whole = cleared(product)[1]
        if whole[0] == 0 and len(whole) > 2:
            rows.append(((0, 1), times))
            whole = whole[1:]
        rows.extend([(part, times) for part in unsplit_divisors(whole)])
    return sorted(rows)


def rows_with_papers(line):
    """Return the rows of a splitting of a primitive whole line."""
    return tuple([(part, times, paper_of_unsplit(part)) for part, times in divisor_rows(line)])


def is_unsplit_primitive(line):
    """Tell whether a primitive line with the unknown can't be split."""
    return not is_divided_twice(line) and len(unsplit_divisors(line)) == 1


def whole_split(line):
    """Return a splitting of a whole line."""
    need_filled_whole(line)
    content = whole_content(line)
    return content, rows_with_papers(shared_line(line, content))


def rational_split(line):
    """Return the pair (fraction, rows) of a line over the field 0."""
    need_line(0, line)
    if line == ():
        raise InvalidLine("the line is nought")
    number, whole = cleared(line)
    if not is_given_whole(whole):
        raise InvalidLine("the whole line is too great, or too long")
    return number, rows_with_papers(whole)


def is_unsplit_whole(line):
    """Tell whether a primitive line with the unknown can't be split."""
    need_primitive(line)
    return is_unsplit_primitive(line)


def whole_paper(line):
    """Return a paper that a primitive line with the unknown can't be split, or None."""
    need_primitive(line)
    return None if is_divided_twice(line) else paper_of_unsplit(line)
