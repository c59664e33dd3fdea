"""Fields, things and derivatives of towers, without any checks."""

from towerback.rawlines import line_slope
from towerback.rawways import inverted, line_scaled, lines_common, lines_exact, lines_minus, lines_plus, lines_times
from towerback.rawways import multiple, nought_of, one_of, plus, settled, times, trimmed_line

FUNCTIONS = ("quot", 0)


def tower_field(tower):
    """Return the field of a tower."""
    field = FUNCTIONS
    for _ in tower:
        field = ("quot", field)
    return field


def unknown_line(field):
    """Return the line over a field that is its unknown alone."""
    return nought_of(field), one_of(field)


def lifted_number(tower, number):
    """Return a rational function as a thing of a tower."""
    thing = number
    field = FUNCTIONS
    for _ in tower:
        line = () if thing == nought_of(field) else (thing,)
        thing = (line, (one_of(field),))
        field = ("quot", field)
    return thing


def derived_number(tower, thing):
    """Return the derivative of a thing of a tower."""
    below = tower_field(tower)[1]
    over, under = thing
    over_slope = derived_line(tower, over)
    if len(under) == 1:
        return over_slope, under
    under_slope = derived_line(tower, under)
    # What the under has in common with its derivative goes out of over and under at once.
    common = lines_common(below, under, under_slope)
    left = lines_exact(below, under, common)
    above = lines_times(below, over_slope, left)
    above = lines_minus(below, above, lines_times(below, over, lines_exact(below, under_slope, common)))
    return settled(below, above, lines_times(below, under, left))


def derived_line(tower, line):
    """Return the derivative of a line in the last unknown of a tower, which is such a line."""
    if tower == ():
        return line_slope(0, line)
    field = tower_field(tower[:-1])
    kind, inner = tower[-1]
    inner_slope = derived_number((), inner)
    numbers = [derived_number(tower[:-1], number) for number in line]
    if kind == "log":
        by = lifted_number(tower[:-1], times(FUNCTIONS, inner_slope, inverted(FUNCTIONS, inner)))
        return lines_plus(field, trimmed_line(field, numbers), line_scaled(field, line_slope(field, line), by))
    by = lifted_number(tower[:-1], inner_slope)
    turned = [times(field, multiple(field, number, k), by) for k, number in enumerate(line)]
    return trimmed_line(field, [plus(field, one, other) for one, other in zip(numbers, turned)])
