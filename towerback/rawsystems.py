"""Solutions of systems of linear equations of any size, or rows that show that there are none, without any checks.

A table is a list or tuple of rows here, and may have no row and no column.
"""

from towerback.elimination import reduced_rows
from towerback.rawtables import rows_product
from towerback.rawways import nought_of, one_of


def solution_of(field, table, right, columns):
    """Return a row with which a table of so many columns comes to the right side, or None if there is none."""
    wide = [tuple(row) + (number,) for row, number in zip(table, right)]
    leads, rows = reduced_rows(field, wide, columns + 1)
    if columns in leads:
        return None
    found = [nought_of(field)] * columns
    for lead, row in zip(leads, rows):
        found[lead] = row[columns]
    return tuple(found)


def refusal_of(field, table, right, columns):
    """Return a row that times the table has noughts alone, and one times the right side, or None if there is none."""
    turned = [tuple([row[at] for row in table]) for at in range(columns)]
    turned.append(tuple(right))
    return solution_of(field, turned, [nought_of(field)] * columns + [one_of(field)], len(right))


def refuses(field, table, right, columns, row):
    """Tell whether a row times the table, of as many rows, has noughts alone, and one times the right side."""
    wide = tuple([tuple(numbers) + (number,) for numbers, number in zip(table, right)])
    if not wide:
        return False
    return rows_product(field, (row,), wide, columns + 1)[0] == (nought_of(field),) * columns + (one_of(field),)
