"""Points at which two terms come to unlike fractions."""

from towerback.errors import InvalidPoint
from towerback.forms import has_number_form
from towerback.makerlines import lifted_exponents, with_first
from towerback.rawways import inverted, minus, negated, nought_of, one_of, plus, powered, times
from towerback.valueforms import compared, forms_and_makers


def are_fractions(value, many):
    """Tell whether any value is a tuple of so many fractions."""
    return isinstance(value, tuple) and len(value) == many and all(has_number_form(0, number) for number in value)


def is_point(told, value):
    """Tell whether any value is a point for two terms with such makers."""
    if not isinstance(value, tuple) or len(value) != 3 or not has_number_form(0, value[0]):
        return False
    if not are_fractions(value[1], len(told[0])) or not are_fractions(value[2], len(told[1])):
        return False
    return nought_of(0) not in value[2]


def leaf_value(form, told, point):
    """Return the fraction to which a whole, x, a logarithm or an exponential comes at a point."""
    if form[0] == "whole":
        return form[1], 1
    if form[0] == "x":
        return point[0]
    if form[0] == "exp":
        found = one_of(0)
        for maker, power in zip(point[2], told[3][form[1]]):
            found = times(0, found, powered(0, maker if power > 0 else inverted(0, maker), abs(power)))
        return found
    found = nought_of(0)
    for line, power in told[2][form[1]]:
        found = plus(0, found, times(0, (power, 1), point[1][told[0].index(line)]))
    return found


def value_of(form, told, point):
    """Return the fraction to which a form comes at a point, or None if it comes to none."""
    sort = form[0]
    if sort in ("whole", "x", "log", "exp"):
        return leaf_value(form, told, point)
    one = value_of(form[1], told, point)
    other = value_of(form[2], told, point) if sort not in ("negative", "power") else one
    if one is None or other is None or (sort == "over" and other == nought_of(0)):
        return None
    if sort == "negative":
        return negated(0, one)
    if sort == "power":
        return powered(0, one, form[2])
    if sort == "plus":
        return plus(0, one, other)
    if sort == "minus":
        return minus(0, one, other)
    return times(0, one, other if sort == "times" else inverted(0, other))


def fitting_integer(lines):
    """Return the least integer from 1 on that may stand for the first unknown, so that none of some lines is nought."""
    number = 1
    while not all([with_first(line, number) for line in lines]):
        number += 1
    return number


def point_for(told, lines):
    """Return a point at which none of some sums of products of the unknowns, none of them nought, comes to nought."""
    lines = [lifted_exponents(line) for line in lines]
    found = []
    for _ in range(1 + len(told[0]) + len(told[1])):
        number = fitting_integer(lines)
        lines = [with_first(line, number) for line in lines]
        found.append((number, 1))
    first = 1 + len(told[0])
    return found[0], tuple(found[1:first]), tuple(found[first:])


def values_at(term, other, point):
    """Return the pair of the fractions to which two terms come at a point, None where one comes to none."""
    forms, told = forms_and_makers(term, other)
    if not is_point(told, point):
        raise InvalidPoint("this is no point for the two terms")
    return value_of(forms[0], told, point), value_of(forms[1], told, point)


def unlike_paper(term, other):
    """Return a point at which two terms come to unlike fractions, or None if they are one value."""
    told, difference, divisors = compared(term, other)
    return point_for(told, [difference] + divisors) if difference else None


def shows_unlike(term, other, value):
    """Tell whether any value is a point at which two terms come to unlike fractions."""
    forms, told = forms_and_makers(term, other)
    if not is_point(told, value):
        return False
    one, another = value_of(forms[0], told, value), value_of(forms[1], told, value)
    return one is not None and another is not None and one != another
