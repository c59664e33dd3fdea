"""Things of a tower as sums of products of rational functions and of powers of the unknowns of its steps."""

from towerback.needs import need_number
from towerback.parted import special_power, unknown_power
from towerback.rawtowers import FUNCTIONS, tower_field
from towerback.rawways import nought_of, plus, settled, trimmed_line
from towerback.towers import need_tower


def spread_rows(tower, thing):
    """Return the list of the pairs (exponents, rational function) of a thing, or None if it has no spread."""
    if tower == ():
        return [] if thing == nought_of(FUNCTIONS) else [((), thing)]
    power = special_power(tower, thing[1])
    if power != len(thing[1]) - 1:
        return None
    found = []
    for at, number in enumerate(thing[0]):
        rows = spread_rows(tower[:-1], number)
        if rows is None:
            return None
        found.extend([(exponents + (at - power,), function) for exponents, function in rows])
    return found


def plain_spread(tower, thing):
    """Return the spread of a thing, or None if it has none."""
    rows = spread_rows(tower, thing)
    return None if rows is None else tuple(sorted(rows))


def thing_of_rows(tower, rows):
    """Return the thing that is the sum of pairs (exponents, rational function)."""
    field = tower_field(tower)
    if tower == ():
        found = nought_of(field)
        for _, function in rows:
            found = plus(field, found, function)
        return found
    low = min([0] + [exponents[-1] for exponents, _ in rows])
    parts = [[] for _ in range(max([0] + [exponents[-1] - low + 1 for exponents, _ in rows]))]
    for exponents, function in rows:
        parts[exponents[-1] - low].append((exponents[:-1], function))
    below = tower_field(tower[:-1])
    numbers = trimmed_line(below, [thing_of_rows(tower[:-1], part) for part in parts])
    return settled(below, numbers, unknown_power(below, -low))


def spread_of(tower, thing):
    """Return the spread of a thing, or None if it has none."""
    need_tower(tower)
    need_number(tower_field(tower), thing)
    return plain_spread(tower, thing)
