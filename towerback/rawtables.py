"""Tables and rows of numbers of a field: what they are, sums and products, without any checks of arguments."""

from towerback.forms import has_number_form, is_given_number
from towerback.nested import nested_constant, nested_exact, nested_plus, nested_times
from towerback.rawways import negated, nought_of, one_of, plus, times
from towerback.wholeforms import common_multiple, has_whole_forms, line_of_whole, whole_line

MOST_ROWS = 40
MOST_COLUMNS = 40


def is_given_row(field, value, many):
    """Tell whether any value is a row of so many numbers of a field, as it can be handed in."""
    if not isinstance(value, tuple) or len(value) != many:
        return False
    return all(is_given_number(field, number) for number in value)


def is_given_table(field, value):
    """Tell whether any value is a table over a field, as it can be handed in."""
    if not isinstance(value, tuple) or not 1 <= len(value) <= MOST_ROWS:
        return False
    if not isinstance(value[0], tuple) or len(value[0]) > MOST_COLUMNS:
        return False
    return all(is_given_row(field, row, len(value[0])) for row in value)


def are_rows(field, value, many):
    """Tell whether any value is a tuple of rows of so many numbers of a field, of any size."""
    if not isinstance(value, tuple):
        return False
    for row in value:
        if not isinstance(row, tuple) or len(row) != many:
            return False
    return all(has_number_form(field, number) for row in value for number in row)


def lead_of(field, row):
    """Return the index of the first number of a row that is not nought, or None."""
    for at, number in enumerate(row):
        if number != nought_of(field):
            return at
    return None


def are_reduced(field, rows):
    """Tell whether rows of one length are reduced rows."""
    last = -1
    for at, row in enumerate(rows):
        lead = lead_of(field, row)
        if lead is None or lead <= last or row[lead] != one_of(field):
            return False
        column = [other[lead] for other in rows[:at] + rows[at + 1:]]
        if lead_of(field, column) is not None:
            return False
        last = lead
    return True


def picked(row, places):
    """Return the numbers of a row at some indices."""
    return tuple(row[at] for at in places)


def unit_row(field, many, at):
    """Return the row of so many numbers with one at an index and noughts elsewhere."""
    nought = nought_of(field)
    one = one_of(field)
    return tuple([one if k == at else nought for k in range(many)])


def rows_product(field, rows, others, many):
    """Return the product of two tuples of rows, the latter of so many numbers."""
    if has_whole_forms(field) and others:
        return whole_rows_product(field, rows, others)
    return tuple(row_of_sums(field, row, others, many) for row in rows)


def row_of_sums(field, row, others, many):
    """Return the sum of rows of so many numbers, each times the number of a row at its index."""
    sums = [nought_of(field)] * many
    for number, other in zip(row, others):
        if number != nought_of(field):
            sums = [plus(field, part, times(field, number, by)) for part, by in zip(sums, other)]
    return tuple(sums)


def whole_rows_product(field, rows, others):
    """Return the product of two tuples of rows over a field without roots, with one quotient a number."""
    pairs = [whole_line(field, other) for other in others]
    under = common_multiple(field, [pair[1] for pair in pairs])
    wholes = []
    for parts, by_parts in pairs:
        scale = nested_exact(field, under, by_parts)
        wholes.append([nested_times(field, scale, part) for part in parts])
    found = []
    for row in rows:
        parts, by_parts = whole_line(field, row)
        found.append(line_of_whole(field, whole_sums(field, parts, wholes), nested_times(field, under, by_parts)))
    return tuple(found)


def whole_sums(field, row, wholes):
    """Return the sum of rows of nested whole lines, each times that of a row at its index."""
    sums = [nested_constant(field, 0)] * len(wholes[0])
    for part, other in zip(row, wholes):
        if part:
            sums = [nested_plus(field, total, nested_times(field, part, by)) for total, by in zip(sums, other)]
    return sums


def kernel_rows(field, leads, reduced, columns):
    """Return the tuple of the rows, one for each free column, by each of which reduced rows come to noughts alone."""
    rows = []
    for free in range(columns):
        if free not in leads:
            row = list(unit_row(field, columns, free))
            for lead, other in zip(leads, reduced):
                row[lead] = negated(field, other[free])
            rows.append(tuple(row))
    return tuple(rows)


def shows_reduced(field, table, paper):
    """Tell whether any value is a paper of the reduced rows of a table."""
    if not isinstance(paper, tuple) or len(paper) != 3:
        return False
    columns = len(table[0])
    reduced, forth, back = paper
    if not are_rows(field, reduced, columns) or not are_reduced(field, reduced):
        return False
    if not are_rows(field, forth, len(table)) or not are_rows(field, back, len(reduced)):
        return False
    if len(forth) != len(reduced) or len(back) != len(table):
        return False
    if rows_product(field, forth, table, columns) != reduced:
        return False
    return rows_product(field, back, reduced, columns) == table
