"""Things of towers of several steps that are looked for by a system of linear equations, whose sizes are bounded."""

from towerback.errors import TooMany
from towerback.needs import need_number
from towerback.parted import unknown_power
from towerback.rawlines import line_slope
from towerback.rawsums import common_under
from towerback.rawtowers import FUNCTIONS, derived_number, tower_field
from towerback.rawways import inverted, lines_common, lines_exact, lines_times, multiple, nought_of, plus, settled
from towerback.rawways import times
from towerback.spreads import plain_spread
from towerback.towers import need_tower

MOST_OF_SYSTEM = 40


def length_and_under(spread):
    """Return the pair (N, V) of a spread that is not empty."""
    under = common_under(0, [function[1] for _, function in spread])
    shared = lines_common(0, under, line_slope(0, under))
    excess = max([len(function[0]) - len(function[1]) for _, function in spread])
    return len(shared) - 1 + max(0, excess + 1), shared


def exponential_places(tower):
    """Return the tuple of the indices of the exponentials of a tower."""
    return tuple([at for at, step in enumerate(tower) if step[0] == "exp"])


def highest_exponents(tower, spread):
    """Return the pairs (row, highest): the exponents of exponentials, and the greatest exponents with them.

    The highest exponent of an exponential is its exponent itself.
    """
    places = exponential_places(tower)
    found = {}
    for exponents, _ in spread:
        row = tuple([exponents[at] for at in places])
        before = found.get(row, exponents)
        found[row] = tuple([max(one, other) for one, other in zip(before, exponents)])
    return [(row, found[row]) for row in sorted(found)]


def ranges_tried(tower, spread):
    """Return the list of the lists of pairs (least, greatest) of exponents that are tried, for each step."""
    found = []
    for row, highest in highest_exponents(tower, spread):
        more = 0 if any(row) else 1
        found.append([(at, at) if step[0] == "exp" else (0, at + more) for step, at in zip(tower, highest)])
    return found


def count_tried(ranges):
    """Return how many exponents are tried."""
    many = 0
    for pairs in ranges:
        here = 1
        for least, greatest in pairs:
            here *= greatest - least + 1
        many += here
    return many


def exponents_tried(ranges):
    """Return the ascending list of the exponents that are tried."""
    found = []
    for pairs in ranges:
        rows = [()]
        for least, greatest in pairs:
            rows = [row + (at,) for row in rows for at in range(least, greatest + 1)]
        found.extend(rows)
    return sorted(found)


def step_slopes(tower):
    """Return the list, for each step, of the derivative of its function, by the function for a logarithm."""
    found = []
    for sort, function in tower:
        slope = derived_number((), function)
        found.append(slope if sort == "exp" else times(FUNCTIONS, slope, inverted(FUNCTIONS, function)))
    return found


def derived_product(tower, slopes, exponents, function):
    """Return the pairs (exponents, rational function) of the derivative of a product, noughts among them, too."""
    same = derived_number((), function)
    found = []
    for at, (step, slope) in enumerate(zip(tower, slopes)):
        part = times(FUNCTIONS, multiple(FUNCTIONS, function, exponents[at]), slope)
        if step[0] == "exp":
            same = plus(FUNCTIONS, same, part)
        else:
            found.append((exponents[:at] + (exponents[at] - 1,) + exponents[at + 1:], part))
    return found + [(exponents, same)]


def functions_at(rows):
    """Return the dict of the rational functions, not nought, at exponents, but for noughts alone."""
    return {exponents: function for exponents, function in rows if any(exponents) and function != nought_of(FUNCTIONS)}


def columns_of(tower, spread):
    """Return the tuple of the columns of the told system; TooMany if they are too many."""
    if not spread:
        return ()
    longest, under = length_and_under(spread)
    ranges = ranges_tried(tower, spread)
    if count_tried(ranges) * (longest + 1) > MOST_OF_SYSTEM:
        raise TooMany(MOST_OF_SYSTEM)
    functions = [settled(0, unknown_power(0, power), under) for power in range(longest + 1)]
    tried = exponents_tried(ranges)
    return tuple([(exponents, function) for exponents in tried for function in functions])


def lines_at(functions, exponents):
    """Return the list of the lines, by one under, that the functions of each dict are at some exponents."""
    numbers = [found.get(exponents, nought_of(FUNCTIONS)) for found in functions]
    under = common_under(0, [number[1] for number in numbers])
    return [lines_times(0, number[0], lines_exact(0, under, number[1])) for number in numbers]


def plain_system(tower, spread):
    """Return the told system of a thing with a spread; TooMany if it has too many columns or rows."""
    columns = columns_of(tower, spread)
    slopes = step_slopes(tower)
    functions = [functions_at(derived_product(tower, slopes, row, function)) for row, function in columns]
    functions.append(functions_at(spread))
    table, right = [], []
    for exponents in sorted(set([row for found in functions for row in found])):
        lines = lines_at(functions, exponents)
        for power in range(max([len(line) for line in lines])):
            row = tuple([line[power] if power < len(line) else nought_of(0) for line in lines])
            table.append(row[:-1])
            right.append(row[-1])
        if len(table) > MOST_OF_SYSTEM:
            raise TooMany(MOST_OF_SYSTEM)
    return columns, tuple(table), tuple(right)


def told_system(tower, thing):
    """Return the told system (columns, table, right side) of a thing, or None if it has no spread."""
    need_tower(tower)
    need_number(tower_field(tower), thing)
    spread = plain_spread(tower, thing)
    return None if spread is None else plain_system(tower, spread)
