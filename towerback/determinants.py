"""Determinants of square tables, with papers."""

from towerback.elimination import reduced_rows
from towerback.errors import InvalidTable
from towerback.forms import has_number_form
from towerback.integers import are_integers, is_integer_in, is_tagged
from towerback.needs import need_field, need_square
from towerback.rawtables import are_rows, kernel_rows, row_of_sums, rows_product
from towerback.rawways import nought_of, one_of
from towerback.triangles import determinant_number, is_odd_order, signed_product, split_table, whole_triangle

MOST_WHOLE_ROWS = 8
GREATEST_WHOLE = 10 ** 6


def determinant_of(field, table):
    """Return the determinant of a square table."""
    need_field(field)
    need_square(field, table)
    return determinant_number(field, table)


def determinant_paper(field, table):
    """Return a paper of the determinant of a square table."""
    need_field(field)
    need_square(field, table)
    found = split_table(field, table)
    if found is None:
        return "nought", left_kernel_row(field, table)
    order, low, high = found
    determinant = signed_product(field, [row[at] for at, row in enumerate(high)], order)
    return "value", determinant, order, low, high


def left_kernel_row(field, table):
    """Return a row, not of noughts alone, by which a square table with the determinant nought comes to noughts."""
    many = len(table)
    turned = [tuple([row[at] for row in table]) for at in range(many)]
    leads, rows = reduced_rows(field, turned, many)
    return kernel_rows(field, leads, rows, many)[0]


def takes_determinant(field, table, paper):
    """Tell whether any value is a paper of the determinant of a square table."""
    need_field(field)
    need_square(field, table)
    if is_tagged(paper, "nought", 2):
        return shows_nought(field, table, paper[1])
    if not is_tagged(paper, "value", 5) or not has_number_form(field, paper[1]):
        return False
    determinant, order, low, high = paper[1:]
    if not is_order(order, len(table)) or not is_low(field, low, len(table)) or not is_high(field, high, len(table)):
        return False
    if signed_product(field, [row[at] for at, row in enumerate(high)], order) != determinant:
        return False
    # Summed one by one, the products of a paper that holds stay short; with one under for a row they would not.
    for row, index in zip(low, order):
        if row_of_sums(field, row, high, len(table)) != table[index]:
            return False
    return True


def shows_nought(field, table, row):
    """Tell whether any value is a row, not of noughts alone, by which a table comes to noughts alone."""
    noughts = (nought_of(field),) * len(table)
    if not are_rows(field, (row,), len(table)) or row == noughts:
        return False
    return rows_product(field, (row,), table, len(table))[0] == noughts


def is_order(value, many):
    """Tell whether any value is a tuple of the indices of so many things, each once."""
    return are_integers(value, many) and sorted(value) == list(range(many))


def is_low(field, value, many):
    """Tell whether any value is a square table with ones at equal indices and noughts behind these."""
    if not are_rows(field, value, many) or len(value) != many:
        return False
    ending = (one_of(field),) + (nought_of(field),) * (many - 1)
    return all([row[at:] == ending[:many - at] for at, row in enumerate(value)])


def is_high(field, value, many):
    """Tell whether any value is a square table with noughts ahead of equal indices and other numbers at these."""
    if not are_rows(field, value, many) or len(value) != many:
        return False
    nought = nought_of(field)
    return all([row[:at] == (nought,) * at and row[at] != nought for at, row in enumerate(value)])


def is_whole_table(value):
    """Tell whether any value is a square table of 1 to 8 rows of integers that can be handed in."""
    if not isinstance(value, tuple) or not 1 <= len(value) <= MOST_WHOLE_ROWS:
        return False
    for row in value:
        if not isinstance(row, tuple) or len(row) != len(value):
            return False
    return all(is_integer_in(number, -GREATEST_WHOLE, GREATEST_WHOLE) for row in value for number in row)


def whole_determinant(table):
    """Return the determinant of a square table of integers."""
    if not is_whole_table(table):
        raise InvalidTable("this is no square table of integers that fit")
    found = whole_triangle(0, list(table))
    if found is None:
        return 0
    determinant = found[1][-1][-1]
    return -determinant if is_odd_order(found[0]) else determinant
