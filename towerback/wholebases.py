"""Whole combinations of rational functions: their whole basis, and how they come of it."""

from towerback.integers import fraction
from towerback.makers import lines_over, need_exps_let
from towerback.rawways import settled, trimmed_line
from towerback.wholeforms import whole_line


def less_times(row, many, other):
    """Return a row of integers less another one, so many times."""
    return [number - many * part for number, part in zip(row, other)]


def lead_at(rows, at):
    """Return the index of the row with the number next to 0, but not 0, at an index, or None if there is none."""
    found = None
    for index, row in enumerate(rows):
        if row[at] and (found is None or abs(row[at]) < abs(rows[found][at])):
            found = index
    return found


def led_at(rows, at):
    """Return (row, others), with the same combinations: the row alone, or None, has a number but 0 at an index."""
    rows = list(rows)
    index = lead_at(rows, at)
    if index is None:
        return None, rows
    while len([row for row in rows if row[at]]) > 1:
        lead = rows[index]
        others = [less_times(row, row[at] // lead[at], lead) for row in rows[:index] + rows[index + 1:]]
        rows = [lead] + others
        index = lead_at(rows, at)
    lead = rows[index]
    others = rows[:index] + rows[index + 1:]
    return (lead if lead[at] > 0 else [-number for number in lead]), others


def whole_rows_basis(rows, many):
    """Return the list of pairs (index, row) of the whole basis of rows of so many integers, the last index ahead."""
    found = []
    for at in reversed(range(many)):
        lead, rows = led_at(rows, at)
        if lead is not None:
            found.append((at, lead))
    return [(at, lowered_row(row, found[index + 1:])) for index, (at, row) in enumerate(found)]


def lowered_row(row, behind):
    """Return a row less others, so that its numbers at their indices are from 0 on, and below theirs."""
    for at, other in behind:
        row = less_times(row, row[at] // other[at], other)
    return row


def row_of(row, basis):
    """Return the tuple of the integers by which a row comes of pairs (index, row) of a basis."""
    found = []
    for at, other in basis:
        many = row[at] // other[at]
        found.append(many)
        row = less_times(row, many, other)
    return tuple(found)


def plain_basis(numbers):
    """Return the pair of the whole basis of rational functions, however many, and of the tuple of their rows."""
    under, lines = lines_over(numbers)
    many = max([len(line) for line in lines], default=0)
    # All numbers side by side, so that one integer clears all of them.
    flat = [number for line in lines for number in line + ((0, 1),) * (many - len(line))]
    wholes, scale = whole_line(0, tuple(flat))
    rows = [list(wholes[first * many:(first + 1) * many]) for first in range(len(lines))]
    basis = whole_rows_basis(rows, many)
    found = []
    for _, row in basis:
        found.append(settled(0, trimmed_line(0, [fraction(number, scale) for number in row]), under))
    return tuple(found), tuple([row_of(row, basis) for row in rows])


def whole_basis(numbers):
    """Return the pair of the whole basis of rational functions, and of the tuple of their rows."""
    need_exps_let(numbers)
    return plain_basis(numbers)
