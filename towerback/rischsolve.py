"""Risch's equation D y + (D w) y = g: its solution, or a paper that there is none."""

from towerback.forms import has_line_form, has_number_form
from towerback.integers import is_integer, is_tagged
from towerback.parted import unknown_power
from towerback.rawlines import line_slope
from towerback.rawsystems import refusal_of, refuses, solution_of
from towerback.rawtables import are_rows
from towerback.rawtowers import FUNCTIONS, derived_number
from towerback.rawways import lines_plus, lines_times, nought_of, plus, settled, times, trimmed_line
from towerback.rischbounds import plain_reduced
from towerback.stepneeds import need_two_functions


def lines_of_powers(reduced):
    """Return the list of the lines a D q + b q of a reduced equation for the powers q of the unknown up to n."""
    found = []
    for power in range(reduced[4] + 1):
        line = unknown_power(0, power)
        first = lines_times(0, reduced[1], line_slope(0, line))
        found.append(lines_plus(0, first, lines_times(0, reduced[2], line)))
    return found


def filled(line, many):
    """Return a line over the fractions as a row of so many numbers."""
    return line + (nought_of(0),) * (many - len(line))


def system_of(reduced):
    """Return the table and the right side, a row for each power of the unknown, of a reduced equation."""
    lines = lines_of_powers(reduced)
    many = max([1, len(reduced[3])] + [len(line) for line in lines])
    rows = [filled(line, many) for line in lines]
    return tuple([tuple([row[at] for row in rows]) for at in range(many)]), filled(reduced[3], many)


def plain_risch(inner, function):
    """Return a paper of Risch's equation."""
    reduced = plain_reduced(inner, function)
    table, right = system_of(reduced)
    found = solution_of(0, table, right, reduced[4] + 1)
    if found is None:
        return "no", reduced[0], reduced[4], refusal_of(0, table, right, reduced[4] + 1)
    return "yes", settled(0, trimmed_line(0, found), reduced[0])


def solves_risch(inner, function, solution):
    """Tell whether a rational function solves Risch's equation."""
    left = times(FUNCTIONS, derived_number((), inner), solution)
    return plus(FUNCTIONS, derived_number((), solution), left) == function


def shows_no_solution(inner, function, value):
    """Tell whether any value that begins with "no" is a paper that Risch's equation has no solution."""
    _, under, degree, row = value
    if not has_line_form(0, under) or not is_integer(degree):
        return False
    reduced = plain_reduced(inner, function)
    if under != reduced[0] or degree != reduced[4]:
        return False
    table, right = system_of(reduced)
    return are_rows(0, (row,), len(right)) and refuses(0, table, right, degree + 1, row)


def shows_risch(inner, function, value):
    """Tell whether any value is a paper of Risch's equation."""
    if is_tagged(value, "yes", 2):
        return has_number_form(FUNCTIONS, value[1]) and solves_risch(inner, function, value[1])
    return is_tagged(value, "no", 4) and shows_no_solution(inner, function, value)


def risch_paper(w, g):
    """Return a paper of Risch's equation."""
    need_two_functions(w, g)
    return plain_risch(w, g)


def risch_solution(w, g):
    """Return the solution of Risch's equation, or None."""
    need_two_functions(w, g)
    paper = plain_risch(w, g)
    return paper[1] if paper[0] == "yes" else None


def takes_risch(w, g, value):
    """Tell whether any value is a paper of Risch's equation."""
    need_two_functions(w, g)
    return shows_risch(w, g, value)
