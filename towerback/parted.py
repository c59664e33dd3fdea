"""Things of a tower in three parts: a line, a part with a special under, and a part without."""

from towerback.errors import InvalidLine
from towerback.needs import need_line, need_number
from towerback.rawsums import below_of
from towerback.rawtowers import tower_field
from towerback.rawways import first_index, inverted, lines_divided, lines_minus, lines_times, minus, nought_of
from towerback.rawways import one_of, times, trimmed_line
from towerback.residues import is_normal_line
from towerback.towers import need_tower


def special_power(tower, line):
    """Return the power of the last unknown that the special part of a line that is not nought is."""
    if tower == () or tower[-1][0] == "log":
        return 0
    return first_index(below_of(tower), line)


def unknown_power(field, power):
    """Return the line over a field that is a power of its unknown."""
    return (nought_of(field),) * power + (one_of(field),)


def first_digits(field, line, other, many):
    """Return the line of so many numbers, at most, that times the other line is a line up to this power.

    The first number of the other line is not nought.
    """
    by = inverted(field, other[0])
    found = []
    for power in range(many):
        total = line[power] if power < len(line) else nought_of(field)
        for at in range(max(0, power - len(other) + 1), power):
            total = minus(field, total, times(field, found[at], other[power - at]))
        found.append(times(field, total, by))
    return trimmed_line(field, found)


def three_parts(tower, thing):
    """Return (line, special, power, proper, under): a thing is the line and both quotients.

    The special line stands over the last unknown to the power, the proper one over the under.
    """
    below = below_of(tower)
    line, rest = lines_divided(below, thing[0], thing[1])
    power = special_power(tower, thing[1])
    under = thing[1][power:]
    if power == 0:
        return line, (), 0, rest, under
    special = first_digits(below, rest, under, power)
    proper = lines_minus(below, rest, lines_times(below, special, under))[power:]
    return line, special, power, proper, under


def things_of_parts(tower, thing):
    """Return the triple of the three parts of a thing, as things."""
    below = below_of(tower)
    line, special, power, proper, under = three_parts(tower, thing)
    one = (one_of(below),)
    return (line, one), (special, unknown_power(below, power)), (proper, under)


def special_part(tower, line):
    """Return the special part of a monic line."""
    need_tower(tower)
    below = below_of(tower)
    need_line(below, line)
    if line == () or line[-1] != one_of(below):
        raise InvalidLine("the line is not monic")
    return unknown_power(below, special_power(tower, line))


def is_normal(tower, line):
    """Tell whether a line that is not nought is normal."""
    need_tower(tower)
    need_line(below_of(tower), line)
    if line == ():
        raise InvalidLine("the line is nought")
    return is_normal_line(tower, line)


def parts_of(tower, thing):
    """Return the triple of the three parts of a thing."""
    need_tower(tower)
    need_number(tower_field(tower), thing)
    return things_of_parts(tower, thing)
