"""Tables, traces, norms and lines of numbers of fields with roots."""

from towerback.elimination import reduced_rows
from towerback.errors import InvalidField
from towerback.needs import need_field, need_number
from towerback.nestedcommon import bottom_of
from towerback.pencils import pencil_chain, pencil_line
from towerback.rawlines import line_slope
from towerback.rawroots import line_of_traces, table_rows, trace_by, traces_of_powers, unknown_traces
from towerback.rawtables import kernel_rows
from towerback.rawways import lines_common, lines_exact, nought_of, one_of, times, trimmed_line
from towerback.resultants import forms_and_chain, number_of_line, resultant_line
from towerback.wholeforms import has_whole_forms


def need_rooted_number(field, number):
    """Raise InvalidField for what is no root field, InvalidNumber for what is no number of it."""
    need_field(field)
    if isinstance(field, int) or field[0] != "root" or bottom_of(field) != 0:
        raise InvalidField("this is no root field")
    need_number(field, number)


def plain_norm(field, number):
    """Return the norm of a number of a root field."""
    below, line = field[1], field[2]
    if not number:
        return nought_of(below)
    above, beside, chain = forms_and_chain(below, line, number, ())
    return number_of_line(below, resultant_line(below, above, beside, chain))


def plain_full(field, number):
    """Return the full line of a number of a root field."""
    below = field[1]
    if below == 0 or not has_whole_forms(below):
        return line_of_traces(below, traces_of_powers(field, number))
    point, chain = pencil_chain(below, field[2], number, (one_of(below),))
    return pencil_line(below, point, chain)


def least_of_powers(field, number):
    """Return the least line of a number of a root field, from the rows of its powers."""
    below = field[1]
    many = len(field[2]) - 1
    power = (one_of(below),)
    rows = []
    for _ in range(many + 1):
        rows.append(power + (nought_of(below),) * (many - len(power)))
        power = times(field, power, number)
    table = [tuple([row[at] for row in rows]) for at in range(many)]
    leads, reduced = reduced_rows(below, table, many + 1)
    return trimmed_line(below, kernel_rows(below, leads, reduced, many + 1)[0])


def plain_least(field, number):
    """Return the least line of a number of a root field."""
    below, line = field[1], field[2]
    if len(lines_common(below, line, line_slope(below, line))) > 1:
        return least_of_powers(field, number)
    # Without a part twice, the numbers are those of several fields, where the full line is a power.
    full = plain_full(field, number)
    return lines_exact(below, full, lines_common(below, full, line_slope(below, full)))


def table_of(field, number):
    """Return the table of a number of a root field."""
    need_rooted_number(field, number)
    return table_rows(field, number)


def trace_of(field, number):
    """Return the trace of a number of a root field."""
    need_rooted_number(field, number)
    return trace_by(field[1], unknown_traces(field), number)


def norm_of(field, number):
    """Return the norm of a number of a root field."""
    need_rooted_number(field, number)
    return plain_norm(field, number)


def full_line(field, number):
    """Return the full line of a number of a root field."""
    need_rooted_number(field, number)
    return plain_full(field, number)


def least_line(field, number):
    """Return the least line of a number of a root field."""
    need_rooted_number(field, number)
    return plain_least(field, number)
