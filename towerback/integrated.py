"""Answers: what a thing of a tower is the derivative of, or why it is told to be of nothing of the kind."""

from towerback.needs import need_number
from towerback.onestep import lifted_sums, plain_one_step
from towerback.rational import plain_integral
from towerback.rawroots import raised
from towerback.rawsystems import refusal_of, solution_of
from towerback.rawtowers import FUNCTIONS, derived_number, tower_field
from towerback.rawways import minus, nought_of, plus, times
from towerback.severals import derived_product, plain_system, step_slopes
from towerback.spreads import plain_spread, thing_of_rows
from towerback.stepneeds import need_step_thing
from towerback.towers import need_tower


def left_at_noughts(tower, spread, rows):
    """Return what the derivatives of some products leave of a spread at exponents of noughts alone."""
    found = nought_of(FUNCTIONS)
    for exponents, function in spread:
        if not any(exponents):
            found = plus(FUNCTIONS, found, function)
    slopes = step_slopes(tower)
    for exponents, function in rows:
        for place, part in derived_product(tower, slopes, exponents, function):
            if not any(place):
                found = minus(FUNCTIONS, found, part)
    return found


def several_answer(tower, thing):
    """Return an answer for a thing of a tower of two steps or more."""
    spread = plain_spread(tower, thing)
    if spread is None:
        return "open", None
    columns, table, right = plain_system(tower, spread)
    solution = solution_of(0, table, right, len(columns))
    if solution is None:
        return "open", refusal_of(0, table, right, len(columns))
    rows = []
    for share, (exponents, function) in zip(solution, columns):
        if share != nought_of(0):
            rows.append((exponents, times(FUNCTIONS, raised(FUNCTIONS, share), function)))
    rational, sums = plain_integral(left_at_noughts(tower, spread, rows))
    own = thing_of_rows(tower, rows + [((0,) * len(tower), rational)])
    return "yes", own, lifted_sums(tower, sums)


def plain_answer(tower, thing):
    """Return an answer for a thing, however great it is."""
    if tower == ():
        return ("yes",) + plain_integral(thing)
    if len(tower) > 1:
        return several_answer(tower, thing)
    paper = plain_one_step(tower[0], thing)
    return paper if paper[0] == "yes" else ("no", paper)


def integrated(tower, thing):
    """Return an answer for a thing of a tower."""
    need_tower(tower)
    need_number(tower_field(tower), thing)
    if len(tower) == 1:
        need_step_thing(tower[0], thing)
    return plain_answer(tower, thing)


def slope_and_back(tower, thing):
    """Return the pair of the derivative of a thing, and of an answer for this derivative."""
    need_tower(tower)
    need_number(tower_field(tower), thing)
    slope = derived_number(tower, thing)
    return slope, plain_answer(tower, slope)
