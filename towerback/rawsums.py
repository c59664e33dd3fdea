"""Derivatives and products of root sums, without any checks.

A thing with a root is taken as the list of its lines, one for each power of the root: each has the derivative
of a line of the tower, and the root has none.
"""

from towerback.rawroots import field_with, fraction_of, line_of_traces, raised, trace_by, unknown_traces
from towerback.rawtowers import derived_line, tower_field
from towerback.rawways import constant_of, inverted, line_scaled, lines_common, lines_divided, lines_exact, lines_plus
from towerback.rawways import lines_times, minus, negated, nought_of, one_of, plus, settled, times, trimmed_line


def below_of(tower):
    """Return the field below the last unknown of a tower: 0 for x."""
    return tower_field(tower)[1]


def raised_thing(below, number):
    """Return the thing that a number of the field below the last unknown is."""
    return (() if number == nought_of(below) else (number,)), (one_of(below),)


def relative_slope(tower, line):
    """Return the thing that the derivative of a line, not nought, by the line is."""
    return settled(below_of(tower), derived_line(tower, line), line)


def single_derivative(tower, root, thing):
    """Return a fraction times the derivative of a thing, not nought, by the thing."""
    field = tower_field(tower)
    slope = minus(field, relative_slope(tower, thing[0]), relative_slope(tower, thing[1]))
    return times(field, raised(field, root), slope)


def common_under(field, unders):
    """Return the least monic line that some monic lines divide."""
    found = (one_of(field),)
    for under in unders:
        found = lines_times(field, found, lines_exact(field, under, lines_common(field, found, under)))
    return found


def turned_rows(field, rows):
    """Return the line, over a field with a root, of the lines that go with the powers of the root."""
    nought = nought_of(field)
    numbers = []
    for at in range(max([len(row) for row in rows])):
        numbers.append(trimmed_line(field, [row[at] if at < len(row) else nought for row in rows]))
    return tuple(numbers)


def rows_of_powers(field, line, many):
    """Return the list of the lines, one for each power of a root, of a line over the field with it."""
    nought = nought_of(field)
    rows = []
    for power in range(many):
        rows.append(trimmed_line(field, [number[power] if power < len(number) else nought for number in line]))
    return rows


def power_sums(field, line, many):
    """Return the list of the sums of the powers, from 1 to so many, of the roots of a monic line."""
    degree = len(line) - 1
    found = []
    for power in range(1, many + 1):
        total = nought_of(field)
        if power <= degree:
            total = times(field, constant_of(field, power, 1), line[degree - power])
        for at in range(1, min(power - 1, degree) + 1):
            total = plus(field, total, times(field, line[degree - at], found[power - at - 1]))
        found.append(negated(field, total))
    return found


def norm_line(field, line):
    """Return the product, over the field below, of a monic line over a field with a root, for all roots."""
    below = field[1]
    traces = unknown_traces(field)
    many = (len(line) - 1) * (len(field[2]) - 1)
    return line_of_traces(below, [trace_by(below, traces, number) for number in power_sums(field, line, many)])


def longer_traces(below, line, traces):
    """Return the traces of the powers of a root up to twice as far, from those below the degree of its line."""
    many = len(line) - 1
    found = list(traces)
    for power in range(many, 2 * many):
        total = nought_of(below)
        for at in range(many):
            total = minus(below, total, times(below, line[at], found[power - many + at]))
        found.append(total)
    return found


def trace_of_product(below, traces, rows, others):
    """Return the trace of the root times two lists of lines that go with its powers."""
    total = ()
    for i, row in enumerate(rows):
        for j, other in enumerate(others):
            if row and other:
                total = lines_plus(below, total, line_scaled(below, lines_times(below, row, other), traces[i + j + 1]))
    return total


def monic_derivative(tower, field, line):
    """Return the trace of the root times the derivative of a monic line, over a field with a root, by the line."""
    below = field[1]
    norm = norm_line(field, line)
    raised_norm = tuple(() if number == nought_of(below) else (number,) for number in norm)
    others = lines_divided(field, raised_norm, line)[0]
    many = len(field[2]) - 1
    traces = longer_traces(below, field[2], unknown_traces(field))
    slopes = [derived_line(tower, row) for row in rows_of_powers(below, line, many)]
    return settled(below, trace_of_product(below, traces, slopes, rows_of_powers(below, others, many)), norm)


def sum_derived(tower, root_line, thing):
    """Return the derivative of a root sum."""
    if len(root_line) == 2:
        return single_derivative(tower, (-root_line[0][0], root_line[0][1]), thing[0])
    field, below = tower_field(tower), below_of(tower)
    under = common_under(below, [number[1] for number in thing])
    rows = [lines_times(below, number[0], lines_exact(below, under, number[1])) for number in thing]
    with_root = field_with(below, root_line)
    line = turned_rows(below, rows)
    last = line[-1]
    trace = raised(field, (-root_line[-2][0], root_line[-2][1]))
    found = negated(field, times(field, trace, relative_slope(tower, under)))
    if tower:
        found = plus(field, found, raised_thing(below, sum_derived(tower[:-1], root_line, last)))
    if len(line) > 1:
        line = line_scaled(with_root, line, inverted(with_root, last))
        found = plus(field, found, monic_derivative(tower, with_root, line))
    return found


def derived_sums(tower, sums):
    """Return the sum of the derivatives of root sums."""
    field = tower_field(tower)
    found = nought_of(field)
    for root_line, thing in sums:
        found = plus(field, found, sum_derived(tower, root_line, thing))
    return found


def is_constant_sum(tower, root_sum):
    """Tell whether a root sum is constant."""
    field = tower_field(tower)
    return all(fraction_of(field, number) is not None for number in root_sum[1])


def joined_sums(tower, sums):
    """Return root sums ascending, those with the same root line made one, without those that are constant."""
    field = tower_field(tower)
    found = []
    for root_line, thing in sorted(sums):
        if found and found[-1][0] == root_line:
            found[-1] = (root_line, times(field_with(field, root_line), found[-1][1], thing))
        else:
            found.append((root_line, thing))
    return tuple([root_sum for root_sum in found if not is_constant_sum(tower, root_sum)])


def scaled_sum(tower, root_sum, number):
    """Return a fraction, not nought, times a root sum."""
    field = tower_field(tower)
    root_line, thing = root_sum
    inverse = inverted(0, number)
    scaled, scale = [], (1, 1)
    for part in reversed(root_line):
        scaled.append(times(0, part, scale))
        scale = times(0, scale, number)
    parts, scale = [], (1, 1)
    for part in thing:
        parts.append(times(field, part, raised(field, scale)))
        scale = times(0, scale, inverse)
    return tuple(reversed(scaled)), tuple(parts)
