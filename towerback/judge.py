"""The judge of answers, whoever tells them."""

from towerback.errors import TooMany
from towerback.forms import has_number_form
from towerback.integers import is_tagged
from towerback.needs import need_number
from towerback.onestep import shows_one_step
from towerback.rawsums import derived_sums
from towerback.rawsystems import refuses
from towerback.rawtables import are_rows
from towerback.rawtowers import derived_number, tower_field
from towerback.rawways import plus
from towerback.rootsums import have_sums_form
from towerback.severals import plain_system
from towerback.spreads import plain_spread
from towerback.stepneeds import need_step_thing
from towerback.towers import need_tower


def shows_derivative(tower, thing, own, sums):
    """Tell whether any two values are a thing and root sums whose derivatives come to a thing."""
    field = tower_field(tower)
    if not has_number_form(field, own) or not have_sums_form(tower, sums):
        return False
    return plus(field, derived_number(tower, own), derived_sums(tower, sums)) == thing


def shows_none(tower, thing, paper):
    """Tell whether any value is a paper that a thing of a tower of one step is nothing's derivative."""
    if len(tower) != 1 or not is_tagged(paper, "no", 3):
        return False
    try:
        need_step_thing(tower[0], thing)
    except TooMany:
        return False
    return shows_one_step(tower[0], thing, paper)


def shows_open(tower, thing, row):
    """Tell whether any value shows that the told system of a thing has no solution, or is None if there is none."""
    if len(tower) < 2:
        return False
    spread = plain_spread(tower, thing)
    if spread is None or row is None:
        return spread is None and row is None
    try:
        columns, table, right = plain_system(tower, spread)
    except TooMany:
        return False
    return are_rows(0, (row,), len(right)) and refuses(0, table, right, len(columns), row)


def takes(tower, thing, value):
    """Tell whether any value is an answer for a thing that holds."""
    need_tower(tower)
    need_number(tower_field(tower), thing)
    if is_tagged(value, "yes", 3):
        return shows_derivative(tower, thing, value[1], value[2])
    if is_tagged(value, "no", 2):
        return shows_none(tower, thing, value[1])
    return is_tagged(value, "open", 2) and shows_open(tower, thing, value[1])
