"""What terms mean in a tower: the tower of their steps, and the things that they are."""

from towerback.errors import TooMany
from towerback.integers import GREATEST
from towerback.nesting import greatest_within
from towerback.rawlines import lines_power
from towerback.rawtowers import FUNCTIONS, lifted_number, tower_field, unknown_line
from towerback.rawways import constant_of, inverted, minus, negated, nought_of, one_of, plus, times
from towerback.termerrors import ConstantStep, TooDeep, UnknownStep, ZeroLog, ZeroUnder
from towerback.terms import need_term, parts_within, size_from_parts
from towerback.towers import MOST_STEPS, need_tower

GREATEST_SIZE = 60
MOST_FIGURES = 1000
THE_UNKNOWN = (((0, 1), (1, 1)), ((1, 1),))


def small_size(term):
    """Return the size of a term; TooMany if it, or that of a part, is too great."""
    size = size_from_parts(term, [small_size(part) for part in parts_within(term)])
    if max(size) > GREATEST_SIZE:
        raise TooMany(GREATEST_SIZE)
    return size


def few_figures(term):
    """Return how many figures a term has; TooMany if it, or a part, has too many."""
    parts = [few_figures(part) for part in parts_within(term)]
    if term[0] == "whole":
        return len(str(term[1]))
    many = 1 if term[0] in ("x", "log", "exp") else sum(parts)
    if term[0] == "power":
        many *= term[2]
    if many > MOST_FIGURES:
        raise TooMany(MOST_FIGURES)
    return many


def need_led_term(term):
    """Raise InvalidTerm for what is no term, TooMany for one that is too great to be led to a tower."""
    need_term(term)
    small_size(term)
    few_figures(term)


def raised_unknown(tower, at):
    """Return the unknown of the step with an index as a thing of a tower."""
    below = tower_field(tower[:at + 1])[1]
    thing = unknown_line(below), (one_of(below),)
    for index in range(at + 1, len(tower)):
        thing = (thing,), (one_of(tower_field(tower[:index])),)
    return thing


def powered_thing(tower, thing, exponent):
    """Return a power of a thing."""
    below = tower_field(tower)[1]
    return lines_power(below, thing[0], exponent), lines_power(below, thing[1], exponent)


def led_parts(tower, term, path, parts):
    """Return the thing that a term means whose parts mean things, all but logarithms and exponentials."""
    field, sort = tower_field(tower), term[0]
    if sort == "negative":
        return negated(field, parts[0])
    if sort == "power":
        return powered_thing(tower, parts[0], term[2])
    if sort == "plus":
        return plus(field, parts[0], parts[1])
    if sort == "minus":
        return minus(field, parts[0], parts[1])
    if sort == "times":
        return times(field, parts[0], parts[1])
    if parts[1] == nought_of(field):
        raise ZeroUnder(path)
    return times(field, parts[0], inverted(field, parts[1]))


def led_function(term, path):
    """Return the rational function that a term within a logarithm or exponential means."""
    if term[0] == "whole":
        return constant_of(FUNCTIONS, term[1], 1)
    if term[0] == "x":
        return THE_UNKNOWN
    if term[0] in ("log", "exp"):
        raise TooDeep(path)
    parts = [led_function(part, path + (at,)) for at, part in enumerate(parts_within(term))]
    return led_parts((), term, path, parts)


def step_at(term, path):
    """Return the step of a logarithm or exponential, or None for the log of 1 and the exp of 0."""
    function = led_function(term[1], path + (0,))
    if term[0] == "log" and function == nought_of(FUNCTIONS):
        raise ZeroLog(path)
    if function == (one_of(FUNCTIONS) if term[0] == "log" else nought_of(FUNCTIONS)):
        return None
    if len(function[0]) < 2 and len(function[1]) < 2:
        raise ConstantStep(path)
    return term[0], function


def led_step(tower, term, path):
    """Return the thing that a logarithm or exponential means."""
    step = step_at(term, path)
    if step is None:
        return constant_of(tower_field(tower), 0 if term[0] == "log" else 1, 1)
    if step not in tower:
        raise UnknownStep(path)
    return raised_unknown(tower, tower.index(step))


def led_thing(tower, term, path):
    """Return the thing that a term means in a tower."""
    if term[0] == "whole":
        return constant_of(tower_field(tower), term[1], 1)
    if term[0] == "x":
        return lifted_number(tower, THE_UNKNOWN)
    if term[0] in ("log", "exp"):
        return led_step(tower, term, path)
    parts = [led_thing(tower, part, path + (at,)) for at, part in enumerate(parts_within(term))]
    return led_parts(tower, term, path, parts)


def steps_within(term, path):
    """Return the list of the steps of the logarithms and exponentials of a term, as they are done, each once."""
    if term[0] in ("log", "exp"):
        step = step_at(term, path)
        return [] if step is None else [step]
    found = []
    for at, part in enumerate(parts_within(term)):
        for step in steps_within(part, path + (at,)):
            if step not in found:
                found.append(step)
    return found


def plain_tower_of(term):
    """Return the tower of the steps of a term; TooMany if an integer in one is too great, or if they are too many."""
    steps = steps_within(term, ())
    for step in steps:
        if greatest_within(step[1]) > GREATEST:
            raise TooMany(GREATEST)
    if len(steps) > MOST_STEPS:
        raise TooMany(MOST_STEPS)
    return tuple(steps)


def tower_of(term):
    """Return the tower of the steps of a term."""
    need_led_term(term)
    return plain_tower_of(term)


def thing_in(tower, term):
    """Return the thing that a term means in a tower."""
    need_tower(tower)
    need_led_term(term)
    return led_thing(tower, term, ())
