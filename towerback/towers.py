"""Towers of logarithms and exponentials over the rational functions, and derivatives of their things."""

from towerback.errors import InvalidTower
from towerback.forms import is_given_number
from towerback.needs import need_number
from towerback.rawtowers import FUNCTIONS, derived_number, lifted_number, tower_field, unknown_line
from towerback.rawways import one_of

MOST_STEPS = 3


def is_step(value):
    """Tell whether any value is a step of a tower."""
    if not isinstance(value, tuple) or len(value) != 2 or not isinstance(value[0], str):
        return False
    if value[0] not in ("log", "exp") or not is_given_number(FUNCTIONS, value[1]):
        return False
    return len(value[1][0]) > 1 or len(value[1][1]) > 1


def is_tower(value):
    """Tell whether any value is a tower, its numbers being such as can be handed in."""
    return isinstance(value, tuple) and len(value) <= MOST_STEPS and all(is_step(step) for step in value)


def need_tower(tower):
    """Raise InvalidTower for what is no tower."""
    if not is_tower(tower):
        raise InvalidTower("this is no tower")


def field_of(tower):
    """Return the field of a tower."""
    need_tower(tower)
    return tower_field(tower)


def derivative_of(tower, thing):
    """Return the derivative of a thing of a tower."""
    need_tower(tower)
    need_number(tower_field(tower), thing)
    return derived_number(tower, thing)


def lifted_thing(tower, number):
    """Return a rational function as a thing of a tower."""
    need_tower(tower)
    need_number(FUNCTIONS, number)
    return lifted_number(tower, number)


def last_unknown(tower):
    """Return the unknown of the last step of a tower, or x, as a thing."""
    need_tower(tower)
    below = tower_field(tower)[1]
    return unknown_line(below), (one_of(below),)
