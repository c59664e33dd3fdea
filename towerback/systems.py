"""Systems of linear equations, with papers of their solutions, or that there are none."""

from towerback.elimination import reduced_rows
from towerback.integers import is_tagged
from towerback.needs import need_field, need_row, need_table
from towerback.rawtables import are_rows, kernel_rows, lead_of, picked, rows_product, shows_reduced, unit_row
from towerback.rawways import nought_of, one_of


def need_system(field, table, right):
    """Raise the errors of a field, a table over it and a right side that fits."""
    need_field(field)
    need_table(field, table)
    need_row(field, right, len(table))


def kernel_of(field, table):
    """Return the tuple of the rows, one for each free column, by each of which a table has noughts alone."""
    need_field(field)
    need_table(field, table)
    columns = len(table[0])
    leads, rows = reduced_rows(field, table, columns)
    return kernel_rows(field, leads, rows, columns)


def solved_paper(field, table, right):
    """Return a paper of the solutions of a system, or that there are none."""
    need_system(field, table, right)
    columns, many = len(table[0]), len(table)
    wide = [row + (number,) + unit_row(field, many, at) for at, (row, number) in enumerate(zip(table, right))]
    leads, rows = reduced_rows(field, wide, columns + 1)
    if columns in leads:
        return "none", rows[-1][columns + 1:]
    solution = [nought_of(field)] * columns
    for lead, row in zip(leads, rows):
        solution[lead] = row[columns]
    reduced = tuple(row[:columns] for row in rows)
    paper = reduced, tuple(row[columns + 1:] for row in rows), tuple(picked(row, leads) for row in table)
    return "solution", tuple(solution), kernel_rows(field, leads, reduced, columns), paper


def solves(field, table, right, row):
    """Tell whether any value is a row with which a table comes to the right side."""
    if not are_rows(field, (row,), len(table[0])):
        return False
    column = tuple((number,) for number in row)
    return rows_product(field, table, column, 1) == tuple((number,) for number in right)


def is_solution(field, table, right, row):
    """Tell whether any value is a solution of a system."""
    need_system(field, table, right)
    return solves(field, table, right, row)


def takes_solved(field, table, right, paper):
    """Tell whether any value is a paper of the solutions of a system, or that there are none."""
    need_system(field, table, right)
    if is_tagged(paper, "none", 2):
        return shows_unsolved(field, table, right, paper[1])
    if not is_tagged(paper, "solution", 4) or not shows_reduced(field, table, paper[3]):
        return False
    columns = len(table[0])
    reduced = paper[3][0]
    leads = [lead_of(field, row) for row in reduced]
    if not are_rows(field, paper[2], columns) or paper[2] != kernel_rows(field, leads, reduced, columns):
        return False
    if not solves(field, table, right, paper[1]):
        return False
    return all([paper[1][at] == nought_of(field) for at in range(columns) if at not in leads])


def shows_unsolved(field, table, right, row):
    """Tell whether any value is a row that shows that a system has no solution."""
    if not are_rows(field, (row,), len(table)):
        return False
    wide = tuple([numbers + (number,) for numbers, number in zip(table, right)])
    columns = len(table[0])
    return rows_product(field, (row,), wide, columns + 1)[0] == (nought_of(field),) * columns + (one_of(field),)
