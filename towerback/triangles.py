"""Square tables as products of a low and a high one, without any checks; determinants."""

from towerback.elimination import pivot_of, swapped
from towerback.nested import nested_constant, nested_exact, nested_minus, nested_times
from towerback.rawways import inverted, minus, negated, nought_of, one_of, times
from towerback.wholeforms import has_whole_forms, number_of_whole, whole_line


def is_odd_order(order):
    """Tell whether an odd number of pairs of an order have the greater index first."""
    many = 0
    for at, index in enumerate(order):
        many += len([other for other in order[:at] if other > index])
    return many % 2 == 1


def whole_lowered(field, row, pivot, column, last):
    """Return a row of nested lines, lowered behind a column by the pivot's row, and by the last pivot."""
    found = list(row[:column + 1])
    for number, other in zip(row[column + 1:], pivot[column + 1:]):
        product = nested_times(field, pivot[column], number)
        if row[column] and other:
            product = nested_minus(field, product, nested_times(field, row[column], other))
        found.append(nested_exact(field, product, last))
    return found


def whole_triangle(field, rows):
    """Return the order of the rows and what they are lowered to, or None if the determinant is nought.

    Each number that is told is a determinant; that at a column ahead of the row's own is what the row
    had there when the row with this index was the pivot's.
    """
    order = list(range(len(rows)))
    last = nested_constant(field, 1)
    for column in range(len(rows)):
        at = pivot_of(rows, column, column, nested_constant(field, 0))
        if at is None:
            return None
        rows, order = swapped(rows, column, at), swapped(order, column, at)
        pivot = rows[column]
        lowered = [whole_lowered(field, row, pivot, column, last) for row in rows[column + 1:]]
        rows = rows[:column + 1] + lowered
        last = pivot[column]
    return tuple(order), rows


def lowered(field, row, pivot, column, by):
    """Return a row, lowered behind a column by the pivot's row, with how often this is taken off at the column."""
    many = times(field, row[column], by)
    found = list(row[:column]) + [many]
    for number, other in zip(row[column + 1:], pivot[column + 1:]):
        found.append(minus(field, number, times(field, many, other)))
    return found


def plain_triangle(field, rows):
    """Return the order and the lowered rows, or None, of numbers of any field; ByNought if a pivot has no inverse."""
    order = list(range(len(rows)))
    for column in range(len(rows)):
        at = pivot_of(rows, column, column, nought_of(field))
        if at is None:
            return None
        rows, order = swapped(rows, column, at), swapped(order, column, at)
        pivot = rows[column]
        by = inverted(field, pivot[column])
        rows = rows[:column + 1] + [lowered(field, row, pivot, column, by) for row in rows[column + 1:]]
    return tuple(order), rows


def low_and_high(field, rows):
    """Return the low and the high table that lowered rows hold."""
    many = len(rows)
    one, nought = one_of(field), nought_of(field)
    low = tuple([tuple(row[:at]) + (one,) + (nought,) * (many - at - 1) for at, row in enumerate(rows)])
    high = tuple([(nought,) * at + tuple(row[at:]) for at, row in enumerate(rows)])
    return low, high


def rows_of_whole(field, rows, unders):
    """Return lowered rows of numbers from lowered rows of nested lines, each of which stands for itself by an under."""
    found = []
    pivots = [nested_constant(field, 1)] + [row[at] for at, row in enumerate(rows)]
    for at, row in enumerate(rows):
        numbers = []
        for column, part in enumerate(row):
            if column < at:
                over = nested_times(field, part, unders[column])
                numbers.append(number_of_whole(field, over, nested_times(field, pivots[column + 1], unders[at])))
            else:
                numbers.append(number_of_whole(field, part, nested_times(field, pivots[at], unders[at])))
        found.append(numbers)
    return found


def split_table(field, table):
    """Return the triple (order, low, high) of a square table, or None if its determinant is nought."""
    if not has_whole_forms(field):
        found = plain_triangle(field, list(table))
        return None if found is None else (found[0],) + low_and_high(field, found[1])
    pairs = [whole_line(field, row) for row in table]
    found = whole_triangle(field, [pair[0] for pair in pairs])
    if found is None:
        return None
    order, rows = found
    unders = [pairs[index][1] for index in order]
    return (order,) + low_and_high(field, rows_of_whole(field, rows, unders))


def signed_product(field, numbers, order):
    """Return the product of some numbers, taken the other way for an odd order."""
    product = one_of(field)
    for number in numbers:
        product = times(field, product, number)
    return negated(field, product) if is_odd_order(order) else product


def determinant_number(field, table):
    """Return the determinant of a square table."""
    if not has_whole_forms(field):
        found = plain_triangle(field, list(table))
        if found is None:
            return nought_of(field)
        return signed_product(field, [row[at] for at, row in enumerate(found[1])], found[0])
    pairs = [whole_line(field, row) for row in table]
    found = whole_triangle(field, [pair[0] for pair in pairs])
    if found is None:
        return nought_of(field)
    under = nested_constant(field, 1)
    for pair in pairs:
        under = nested_times(field, under, pair[1])
    number = number_of_whole(field, found[1][-1][-1], under)
    return negated(field, number) if is_odd_order(found[0]) else number
