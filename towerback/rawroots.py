"""Fields with roots and constants in them, without any checks."""

from towerback.rawways import constant_of, lines_divided, multiple, negated, nought_of, one_of, plus, times
from towerback.rawways import trimmed_line


def raised(field, number):
    """Return the constant of a field that a fraction is."""
    return constant_of(field, number[0], number[1])


def raised_line(field, line):
    """Return the line over a field that a line over 0 is."""
    return tuple(raised(field, number) for number in line)


def fraction_of(field, number):
    """Return the fraction that a number of a field is, or None if it is no constant."""
    if field == 0:
        return number
    line = number
    if field[0] == "quot":
        line = number[0]
        if len(number[1]) > 1:
            return None
    if not line:
        return 0, 1
    return fraction_of(field[1], line[0]) if len(line) == 1 else None


def field_with(field, line):
    """Return a field with a root line."""
    return "root", field, raised_line(field, line)


def depth_of(field):
    """Return how deep a field is built."""
    depth = 0
    while not isinstance(field, int):
        field = field[1]
        depth += 1
    return depth


def spread(field, rows, many):
    """Return the number, of the quotients over a field with a root, that a line of numbers with this root is."""
    below = ("quot", field)
    one = one_of(field)
    found = []
    for power in range(many):
        numbers = [row[power] if len(row) > power else nought_of(field) for row in rows]
        found.append((trimmed_line(field, numbers), (one,)))
    return trimmed_line(below, found)


def table_rows(field, number):
    """Return the tuple of the rows of the table of a number of a field with a root."""
    below, line = field[1], field[2]
    many = len(line) - 1
    row = number
    rows = []
    for _ in range(many):
        rows.append(row + (nought_of(below),) * (many - len(row)))
        row = lines_divided(below, (nought_of(below),) + row if row else (), line)[1]
    return tuple(rows)


def unknown_traces(field):
    """Return the list of the traces of the powers of the root of a field, from 0 up to one less than its degree."""
    below, line = field[1], field[2]
    many = len(line) - 1
    traces = [multiple(below, one_of(below), many)]
    for power in range(1, many):
        # Newton's way: the sums of the powers of the roots from the numbers of their line.
        total = multiple(below, line[many - power], power)
        for at in range(1, power):
            total = plus(below, total, times(below, line[many - at], traces[power - at]))
        traces.append(negated(below, total))
    return traces


def trace_by(below, traces, number):
    """Return the trace of a number from those of the powers of the root."""
    total = nought_of(below)
    for part, trace in zip(number, traces):
        if part != nought_of(below):
            total = plus(below, total, times(below, part, trace))
    return total


def traces_of_powers(field, number):
    """Return the list of the traces of the powers of a number, from 1 up to the degree of its field."""
    below = field[1]
    traces = unknown_traces(field)
    power = number
    found = [trace_by(below, traces, power)]
    for _ in range(len(field[2]) - 2):
        power = times(field, power, number)
        found.append(trace_by(below, traces, power))
    return found


def line_of_traces(field, traces):
    """Return the monic line, as long as there are traces, the sums of the powers of whose roots are these."""
    numbers = [one_of(field)]
    for power in range(1, len(traces) + 1):
        total = nought_of(field)
        for at in range(power):
            total = plus(field, total, times(field, numbers[at], traces[power - at - 1]))
        numbers.append(times(field, negated(field, total), constant_of(field, 1, power)))
    return tuple(reversed(numbers))
