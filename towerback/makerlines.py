"""Sums of products of powers of several unknowns, as dicts from tuples of exponents to integers that are not 0.

Exponents may be below 0.
"""


def lines_sum(one, other, many):
    """Return the sum of one and of another one, so many times."""
    found = {exponents: one[exponents] for exponents in one}
    for exponents, number in other.items():
        found[exponents] = found.get(exponents, 0) + many * number
    return {exponents: number for exponents, number in found.items() if number}


def lines_product(one, other):
    """Return the product."""
    found = {}
    for left, number in one.items():
        for right, by in other.items():
            place = tuple([a + b for a, b in zip(left, right)])
            found[place] = found.get(place, 0) + number * by
    return {exponents: number for exponents, number in found.items() if number}


def lines_to_power(line, power, unit):
    """Return a power, with an exponent from 0 on; the unit is one."""
    found = unit
    for _ in range(power):
        found = lines_product(found, line)
    return found


def lifted_exponents(line):
    """Return what is not nought times a product of powers of the unknowns, so that no exponent is below 0."""
    places = sorted(line)
    least = places[0]
    for place in places:
        least = tuple([min(a, b) for a, b in zip(least, place)])
    return {tuple([a - b for a, b in zip(place, least)]): line[place] for place in places}


def with_first(line, number):
    """Return what becomes of it when an integer stands for the first unknown, whose exponents are from 0 on."""
    found = {}
    for place, many in line.items():
        for _ in range(place[0]):
            many *= number
        found[place[1:]] = found.get(place[1:], 0) + many
    return {place: many for place, many in found.items() if many}
