"""Whole lines by plain arithmetic, against which the package is held."""

from fractions import Fraction

from tests.support import GREATEST, any_values


def product_of(lines, number=1):
    """Return the product of whole lines, and of a number that is not 0."""
    product = (number,)
    for line in lines:
        sums = [0] * (len(product) + len(line) - 1)
        for i, a in enumerate(product):
            for j, b in enumerate(line):
                sums[i + j] += a * b
        product = tuple(sums)
    return product


def value_at(line, number):
    """Return the value of a line at a number."""
    return sum(part * number ** k for k, part in enumerate(line))


def told_by(points, values):
    """Return the numbers, as fractions, of the line of the least degree with values at points."""
    found = [Fraction(0)] * len(points)
    for j, point in enumerate(points):
        line, under = (1,), 1
        for i, other in enumerate(points):
            if i != j:
                line, under = product_of([line, (-other, 1)]), under * (point - other)
        found = [total + Fraction(part * values[j], under) for total, part in zip(found, line)]
    return found


def divisors_of(number):
    """Return all divisors of an integer, not 0, either way."""
    found = [k for k in range(1, abs(number) + 1) if number % k == 0]
    return found + [-k for k in found]


def plain_divisors(line, degree):
    """Return all primitive lines of a degree that divide a whole line, found by its values at points."""
    points, point = [], 0
    while len(points) <= degree:
        for number in {point, -point}:
            if value_at(line, number) and len(points) <= degree:
                points.append(number)
        point += 1
    rows = [()]
    for point in points:
        rows = [row + (value,) for row in rows for value in divisors_of(value_at(line, point))]
    found = []
    for row in rows:
        numbers = told_by(points, row)
        if all(part.denominator == 1 for part in numbers) and numbers[-1] > 0:
            other = tuple(part.numerator for part in numbers)
            if does_divide(other, line) and other not in found:
                found.append(other)
    return found


def does_divide(one, line):
    """Tell whether a whole line divides another one."""
    rest = list(line)
    while len(rest) >= len(one):
        many, left = divmod(rest[-1], one[-1])
        if left:
            return False
        first = len(rest) - len(one)
        for k, part in enumerate(one):
            rest[first + k] -= many * part
        rest.pop()
    return not any(rest)


def no_wholes():
    """Return values that are no whole lines as they can be handed in."""
    return any_values() + [(1, 0), (0,), (True,), (1, True), (1,) * 14, (1, GREATEST + 1), (-GREATEST - 1,), [1, 1], ((1, 1),), (1, None)]
