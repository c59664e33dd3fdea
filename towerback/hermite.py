"""Things of a tower as a derivative, a plain thing and a rest, with papers."""

from towerback.chains import apart_times
from towerback.errors import NotNormal
from towerback.forms import are_lines, has_number_form
from towerback.linegcd import come_to
from towerback.needs import need_line, need_number
from towerback.parted import special_power, things_of_parts, three_parts
from towerback.rawlines import line_slope
from towerback.rawsums import below_of
from towerback.rawtowers import derived_line, derived_number, tower_field
from towerback.rawways import line_negated, lines_common, lines_divided, lines_exact, lines_minus
from towerback.rawways import lines_plus, lines_times, nought_of, one_of, plus, settled
from towerback.residues import is_normal_line
from towerback.towers import need_tower
from towerback.wholeparts import whole_rest_of_quotient


def kernel_of_more(tower, more):
    """Return (k, left, slope): a line by its common divisor with its derivative, this, and the derivative by it."""
    below = below_of(tower)
    slope = derived_line(tower, more)
    left = lines_common(below, more, slope)
    return lines_exact(below, more, left), left, lines_exact(below, slope, left)


def turned(tower, over, plain, told):
    """Return the pair (b, rest) of a Hermite turn, told being what kernel_of_more returns."""
    below = below_of(tower)
    kernel, _, slope = told
    by = lines_times(below, slope, lines_exact(below, plain, kernel))
    rest = lines_divided(below, by, kernel)[1]
    above = lines_divided(below, line_negated(below, over), kernel)[1]
    found = whole_rest_of_quotient(below, above, rest, kernel)
    left = lines_minus(below, over, lines_times(below, derived_line(tower, found), plain))
    left = lines_plus(below, left, lines_times(below, found, by))
    return found, lines_exact(below, left, kernel)


def need_turn(tower, over, plain, more):
    """Raise the errors of a tower and of three lines, but for NotNormal."""
    need_tower(tower)
    below = below_of(tower)
    need_line(below, over)
    need_line(below, plain)
    need_line(below, more)


def hermite_turn(tower, over, plain, more):
    """Return the pair (b, rest) of a Hermite turn."""
    need_turn(tower, over, plain, more)
    one = one_of(below_of(tower))
    if plain == () or plain[-1] != one or not is_normal_line(tower, plain):
        raise NotNormal("the first under is not monic and normal")
    if len(more) < 2 or more[-1] != one:
        raise NotNormal("the second under is not monic, or has no degree from 1 on")
    told = kernel_of_more(tower, more)
    if len(told[0]) < 2 or lines_divided(below_of(tower), plain, told[0])[1]:
        raise NotNormal("the second under does not fit the first one")
    return turned(tower, over, plain, told)


def plain_hermite(tower, thing):
    """Return the Hermite triple of a thing; NotNormal if there is none."""
    below, field = below_of(tower), tower_field(tower)
    _, _, _, over, under = three_parts(tower, thing)
    more = lines_common(below, under, line_slope(below, under))
    plain = lines_exact(below, under, more)
    if not is_normal_line(tower, plain):
        raise NotNormal("the under has parts that are not normal")
    found = nought_of(field)
    while len(more) > 1:
        told = kernel_of_more(tower, more)
        line, over = turned(tower, over, plain, told)
        found = plus(field, found, settled(below, line, more))
        more = told[1]
    first, second, _ = things_of_parts(tower, thing)
    return found, settled(below, over, plain), plus(field, first, second)


def hermite(tower, thing):
    """Return the Hermite triple of a thing."""
    need_tower(tower)
    need_number(tower_field(tower), thing)
    return plain_hermite(tower, thing)


def plain_hermite_paper(tower, thing):
    """Return a Hermite paper of a thing; NotNormal if it has no Hermite triple."""
    triple = plain_hermite(tower, thing)
    under = triple[1][1]
    return triple + apart_times(below_of(tower), under, derived_line(tower, under))


def hermite_paper(tower, thing):
    """Return a Hermite paper of a thing."""
    need_tower(tower)
    need_number(tower_field(tower), thing)
    return plain_hermite_paper(tower, thing)


def shows_hermite(tower, thing, value):
    """Tell whether any value is a Hermite paper of a thing."""
    below, field = below_of(tower), tower_field(tower)
    if not isinstance(value, tuple) or len(value) != 5 or not are_lines(below, value[3:], 2):
        return False
    if not all(has_number_form(field, part) for part in value[:3]):
        return False
    found, plain, rest, first, second = value
    if len(plain[0]) >= len(plain[1]) or special_power(tower, rest[1]) != len(rest[1]) - 1:
        return False
    slope = derived_line(tower, plain[1])
    if not come_to(below, (first, plain[1]), (second, slope), (one_of(below),)):
        return False
    return plus(field, plus(field, derived_number(tower, found), plain), rest) == thing


def is_hermite_paper(tower, thing, value):
    """Tell whether any value is a Hermite paper of a thing."""
    need_tower(tower)
    need_number(tower_field(tower), thing)
    return shows_hermite(tower, thing, value)
