"""Terms of things of a tower.

The unknowns are handed over as terms, from x up to that of the last step: a number of the field 0 has none.
"""

from towerback.errors import TooMany
from towerback.needs import need_number
from towerback.nesting import greatest_within, longest_within
from towerback.rawtowers import tower_field
from towerback.rawways import negated, nought_of, one_of
from towerback.terms import GREATEST_HEIGHT, GREATEST_WHOLE, is_plain_term
from towerback.towers import need_tower

LONGEST_TOLD = 13
THE_UNKNOWN = ("x",)


def field_with_unknowns(many):
    """Return the field, built over 0 by quotients alone, that has so many unknowns."""
    field = 0
    for _ in range(many):
        field = ("quot", field)
    return field


def begins_below(unknowns, number):
    """Tell whether a number begins below 0."""
    for _ in unknowns:
        if not number[0]:
            return False
        number = number[0][-1]
    return number[0] < 0


def told_number(unknowns, number):
    """Return the term of a number of the field that has some unknowns."""
    if begins_below(unknowns, number):
        return "negative", told_upward(unknowns, negated(field_with_unknowns(len(unknowns)), number))
    return told_upward(unknowns, number)


def told_upward(unknowns, number):
    """Return the term of a number that does not begin below 0."""
    if not unknowns:
        over = "whole", number[0]
        return over if number[1] == 1 else ("over", over, ("whole", number[1]))
    over = told_line(unknowns, number[0])
    return over if len(number[1]) == 1 else ("over", over, told_line(unknowns, number[1]))


def told_line(unknowns, line):
    """Return the term of a line in the last one of some unknowns, whose last number does not begin below 0."""
    below = unknowns[:-1]
    field = field_with_unknowns(len(below))
    found = None
    for power in reversed(range(len(line))):
        number = line[power]
        if found is None:
            found = told_part(unknowns, number, power)
        elif begins_below(below, number):
            found = "minus", found, told_part(unknowns, negated(field, number), power)
        elif number != nought_of(field):
            found = "plus", found, told_part(unknowns, number, power)
    return ("whole", 0) if found is None else found


def told_part(unknowns, number, power):
    """Return the term of a number times a power of the last one of some unknowns."""
    below = unknowns[:-1]
    if power == 0:
        return told_number(below, number)
    unknown = unknowns[-1] if power == 1 else ("power", unknowns[-1], power)
    if number == one_of(field_with_unknowns(len(below))):
        return unknown
    return "times", told_number(below, number), unknown


def unknowns_of(tower):
    """Return the tuple of the terms of the unknowns of a tower, x ahead."""
    return (THE_UNKNOWN,) + tuple([(step[0], told_number((THE_UNKNOWN,), step[1])) for step in tower])


def need_tellable(values):
    """Raise TooMany if a line within some values is too long to be told, then if an integer in them is too great."""
    if any([longest_within(value) > LONGEST_TOLD for value in values]):
        raise TooMany(LONGEST_TOLD - 1)
    if any([greatest_within(value) > GREATEST_WHOLE for value in values]):
        raise TooMany(GREATEST_WHOLE)


def need_told(term):
    """Return a term, or raise TooMany if it is too high, or built of too many."""
    if not is_plain_term(term):
        raise TooMany(GREATEST_HEIGHT)
    return term


def term_of(tower, thing):
    """Return the term of a thing of a tower."""
    need_tower(tower)
    need_number(tower_field(tower), thing)
    need_tellable([thing] + [step[1] for step in tower])
    return need_told(told_number(unknowns_of(tower), thing))
