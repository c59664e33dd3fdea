"""Tables of numbers of a field: products, inverses and reduced rows, with papers."""

from towerback.elimination import reduced_rows, with_units
from towerback.errors import InvalidTable
from towerback.needs import need_field, need_row, need_square, need_table
from towerback.rawtables import picked, rows_product, shows_reduced


def times_table(field, one, other):
    """Return the product of two tables."""
    need_field(field)
    need_table(field, one)
    need_table(field, other)
    if len(one[0]) != len(other):
        raise InvalidTable("the columns of the first table are not as many as the rows of the other one")
    return rows_product(field, one, other, len(other[0]))


def table_by_row(field, table, row):
    """Return the row of the sums of the products of each row of a table with a row."""
    need_field(field)
    need_table(field, table)
    need_row(field, row, len(table[0]))
    column = tuple((number,) for number in row)
    return tuple([sums[0] for sums in rows_product(field, table, column, 1)])


def row_by_table(field, table, row):
    """Return the sum of the rows of a table, each times the number of a row at its index."""
    need_field(field)
    need_table(field, table)
    need_row(field, row, len(table))
    return rows_product(field, (row,), table, len(table[0]))[0]


def inverse_table(field, table):
    """Return the inverse of a square table, or None if there is none."""
    need_field(field)
    need_square(field, table)
    many = len(table)
    leads, rows = reduced_rows(field, with_units(field, table), many)
    if len(leads) < many:
        return None
    return tuple(row[many:] for row in rows)


def reduced_paper(field, table):
    """Return a paper (R, T, S) of the reduced rows of a table."""
    need_field(field)
    need_table(field, table)
    columns = len(table[0])
    leads, rows = reduced_rows(field, with_units(field, table), columns)
    reduced = tuple(row[:columns] for row in rows)
    back = tuple(picked(row, leads) for row in table)
    return reduced, tuple(row[columns:] for row in rows), back


def takes_reduced(field, table, paper):
    """Tell whether any value is a paper of the reduced rows of a table."""
    need_field(field)
    need_table(field, table)
    return shows_reduced(field, table, paper)
