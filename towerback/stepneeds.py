"""Checks of what is handed in with one step of a tower: what is none of its kind, and what is too long."""

from towerback.errors import InvalidInner, InvalidStep, TooMany
from towerback.forms import is_given_number
from towerback.needs import need_number
from towerback.rawtowers import FUNCTIONS
from towerback.towers import is_step

THINGS = ("quot", ("quot", 0))
HIGHEST_OF_FUNCTION = 6
HIGHEST_OF_LINE = 4


def need_inner(function):
    """Raise InvalidInner for what is no inner function."""
    if not is_given_number(FUNCTIONS, function) or (len(function[0]) < 2 and len(function[1]) < 2):
        raise InvalidInner("this is no inner function")


def need_step(step):
    """Raise InvalidStep for what is no step."""
    if not is_step(step):
        raise InvalidStep("this is no step")


def is_short_function(function):
    """Tell whether no line in a rational function is too long."""
    return len(function[0]) <= HIGHEST_OF_FUNCTION + 1 and len(function[1]) <= HIGHEST_OF_FUNCTION + 1


def need_short_function(function):
    """Raise TooMany if a line in a rational function is too long."""
    if not is_short_function(function):
        raise TooMany(HIGHEST_OF_FUNCTION)


def need_short_lines(lines):
    """Raise TooMany if a line over X of a tuple is too long, and then if a line in a number of one is."""
    for line in lines:
        if len(line) > HIGHEST_OF_LINE + 1:
            raise TooMany(HIGHEST_OF_LINE)
    for line in lines:
        for number in line:
            need_short_function(number)


def need_two_functions(inner, function):
    """Raise the errors of an inner function and of a rational function."""
    need_inner(inner)
    need_number(FUNCTIONS, function)
    need_short_function(inner)
    need_short_function(function)


def need_step_thing(step, thing):
    """Raise the errors of a step, and of a thing of the tower that has this step alone."""
    need_step(step)
    need_number(THINGS, thing)
    need_short_function(step[1])
    need_short_lines(thing)
