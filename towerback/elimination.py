"""Rows reduced by elimination, without any checks.

Here a table is a tuple of rows of numbers of a field; rows are reduced by their first columns alone,
and what stands behind these columns goes along.
"""

from towerback.nested import nested_constant, nested_exact, nested_minus, nested_times
from towerback.rawways import inverted, minus, nought_of, times
from towerback.rawtables import unit_row
from towerback.wholeforms import has_whole_forms, line_of_whole, whole_line


def with_units(field, table):
    """Return the rows of a table, each with its row of the table of ones behind it."""
    return [row + unit_row(field, len(table), at) for at, row in enumerate(table)]


def pivot_of(rows, first, column, nought):
    """Return the index of a row, from the first one on, with a number at a column, or None."""
    for at in range(first, len(rows)):
        if rows[at][column] != nought:
            return at
    return None


def swapped(rows, one, other):
    """Return the list of rows with two of them in each other's place."""
    moved = list(rows)
    moved[one], moved[other] = rows[other], rows[one]
    return moved


def reduced_rows(field, rows, columns):
    """Return the leading indices and the reduced rows that lead; ByNought if a number has no inverse."""
    if has_whole_forms(field):
        return whole_reduced(field, [whole_line(field, row)[0] for row in rows], columns)
    leads = []
    for column in range(columns):
        first = len(leads)
        at = pivot_of(rows, first, column, nought_of(field))
        if at is None:
            continue
        rows = swapped(rows, first, at)
        by = inverted(field, rows[first][column])
        pivot = [times(field, by, number) for number in rows[first]]
        rows = [row_less(field, row, pivot, column) for row in rows]
        rows[first] = pivot
        leads.append(column)
    return leads, [tuple(row) for row in rows[:len(leads)]]


def row_less(field, row, pivot, column):
    """Return a row less the pivot's row, so often that the number at the column is nought."""
    many = row[column]
    if many == nought_of(field):
        return row
    return [minus(field, number, times(field, many, other)) for number, other in zip(row, pivot)]


def whole_reduced(field, rows, columns):
    """Return what reduced_rows does, of rows of nested whole lines, without quotients on the way.

    Each number on the way is a determinant, so the pivot ahead divides what it is to divide.
    """
    leads = []
    last = nested_constant(field, 1)
    for column in range(columns):
        first = len(leads)
        at = pivot_of(rows, first, column, nested_constant(field, 0))
        if at is None:
            continue
        rows = swapped(rows, first, at)
        pivot = rows[first]
        rows = [whole_row_less(field, row, pivot, column, last) for row in rows]
        rows[first] = pivot
        last = pivot[column]
        leads.append(column)
    return leads, [line_of_whole(field, row, last) for row in rows[:len(leads)]]


def whole_row_less(field, row, pivot, column, last):
    """Return the row of determinants, two by two, of a row and the pivot's row, by the last pivot."""
    found = []
    for number, other in zip(row, pivot):
        product = nested_times(field, pivot[column], number)
        if row[column] and other:
            product = nested_minus(field, product, nested_times(field, row[column], other))
        found.append(nested_exact(field, product, last))
    return found
