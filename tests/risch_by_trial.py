"""Functions of one step, their derivatives, and papers about them, word by word, against which the package is held."""

from tests.support import X, random_line, random_number, trimmed
from tests.test_stepparts import NOUGHT, ONE, XX
from tests.test_towers import U, V, W, rational
from towerback.fieldways import inverse_of, is_number, number_minus, number_plus, number_times, quotient_of
from towerback.lineways import common_line, divided_lines, line_plus, line_times, monic_line, slope_of
from towerback.rawsums import derived_sums
from towerback.rawtowers import derived_number, tower_field
from towerback.rawways import plus
from towerback.towers import derivative_of

# Inner functions: lines, such with poles of several orders, proper and improper ones.
INNER = [
    U, V, W, rational(3, 0, 1), rational(1, 1), (((1, 1), (1, 1)), ((0, 1), (0, 1), (1, 1))), rational(0, -2),
    (((1, 1),), ((1, 1), (0, 1), (2, 1), (0, 1), (1, 1))), (((0, 1), (0, 1), (0, 1), (1, 1)), ((-1, 1), (1, 1))),
]
NOT_INNER = [NOUGHT, ONE, rational(5), (((1, 2),), ((1, 1),)), (), ((), ()), ((1, 1),), (U[0], ((2, 1),)), rational(0, 10 ** 100 + 1)]


def short_function(number, most=6):
    """Tell whether no line in a rational function has a higher degree."""
    return max(len(number[0]), len(number[1])) <= most + 1


def short_thing(thing):
    """Tell whether a thing of one step is within the limits 4 and 6."""
    return is_number(XX, thing) and all(len(line) < 6 and all(short_function(part) for part in line) for line in thing)


def some_function(chance, most=2):
    """Return some rational function."""
    return random_number(chance, X, most)


def log_slope(inner):
    """Return the derivative of a rational function by it."""
    return number_times(X, derivative_of((), inner), inverse_of(X, inner))


def left_side(inner, solution):
    """Return D y + (D w) y."""
    return number_plus(X, derivative_of((), solution), number_times(X, derivative_of((), inner), solution))


def plain_within(line, other):
    """Return the greatest monic divisor of a line each divisor of degree 1 or more of which has a common one with another."""
    found = ((1, 1),)
    while True:
        common = common_line(0, divided_lines(0, line, found)[0], other)
        if len(common) == 1:
            return found
        found = line_times(0, found, common)


def plain_equation(inner, function):
    """Return the reduced equation, by the words of the document."""
    under = function[1]
    within = plain_within(under, inner[1])
    rest = divided_lines(0, under, within)[0]
    slope = derivative_of((), inner)
    first = common_line(0, rest, slope_of(0, rest))
    second = divided_lines(0, within, common_line(0, within, slope[1]))[0]
    e = line_times(0, first, second)
    left = number_minus(X, slope, quotient_of(0, slope_of(0, e), e))
    right = number_times(X, (e, ((1, 1),)), function)
    product = line_times(0, left[1], right[1])
    a = monic_line(0, divided_lines(0, product, common_line(0, left[1], right[1]))[0])
    b = divided_lines(0, line_times(0, left[0], a), left[1])[0]
    c = divided_lines(0, line_times(0, right[0], a), right[1])[0]
    i, j, k = len(a) - 1, len(b) - 1, len(c) - 1
    if not c:
        n = -1
    elif j > i - 1:
        n = max(-1, k - j)
    elif j < i - 1:
        n = max(0, k - i + 1)
    else:
        number = (-b[-1][0], b[-1][1])
        n = max([-1, k - j] + ([number[0]] if number[1] == 1 else []))
    return e, a, b, c, n


def equation_lines(equation):
    """Return the lines a D q + b q for q = 1, x, .. to x to the power n."""
    found = []
    for power in range(equation[4] + 1):
        q = ((0, 1),) * power + ((1, 1),)
        found.append(line_plus(0, line_times(0, equation[1], slope_of(0, q)), line_times(0, equation[2], q)))
    return found


def sum_with(row, line):
    """Return the sum of a row's items times a line's numbers at the same indices."""
    total = (0, 1)
    for item, number in zip(row, line):
        total = number_plus(0, total, number_times(0, item, number))
    return total


def is_risch_paper(inner, function, value):
    """Tell whether a paper of Risch's equation is as told, by the words of the document."""
    if value[0] == "yes":
        return left_side(inner, value[1]) == function
    equation = plain_equation(inner, function)
    if (value[1], value[2]) != (equation[0], equation[4]):
        return False
    lines = equation_lines(equation)
    row = value[3]
    if len(row) != max([1, len(equation[3])] + [len(line) for line in lines]):
        return False
    return all(sum_with(row, line) == (0, 1) for line in lines) and sum_with(row, equation[3]) == (1, 1)


def lifted(number):
    """Return a rational function as a thing of one step."""
    return ((number,) if number != NOUGHT else (), (ONE,))


def thing_from(low, row):
    """Return the sum of the row's numbers times powers of t from a low one on."""
    return quotient_of(X, trimmed(X, row), (NOUGHT,) * -low + (ONE,))


def great_plus(tower, own, sums):
    """Return the sum of the derivatives of a thing of a tower and of root sums of it, of any size."""
    return plus(tower_field(tower), derived_number(tower, own), derived_sums(tower, sums))


def some_thing(chance, most=3, many=2):
    """Return some thing of one step, within the limits."""
    while True:
        under = trimmed(X, [random_number(chance, X, many) for _ in range(chance.randint(1, most))])
        if under:
            thing = quotient_of(X, random_line(chance, X, chance.randint(0, most)), under)
            if short_thing(thing):
                return thing

