"""Real roots by rows of signs, and integrals between fractions."""

from towerback.errors import InvalidBounds, InvalidLine
from towerback.forms import is_given_number
from towerback.integers import fraction, integer_power
from towerback.lineroots import slope_of_whole
from towerback.modlines import trimmed
from towerback.needs import need_line, need_number
from towerback.rational import plain_integral
from towerback.rawlines import line_slope, line_value
from towerback.rawtowers import FUNCTIONS
from towerback.rawways import inverted, line_scaled, lines_common, lines_exact, minus, times
from towerback.wholeways import cleared, fraction_line, shared_line


def need_unknown_line(line):
    """Raise InvalidLine for what is no line over 0 with the unknown."""
    need_line(0, line)
    if len(line) < 2:
        raise InvalidLine("the line has not the unknown")


def need_bounds(low, high):
    """Raise InvalidBounds for what are no two fractions, the first one below the second one."""
    if not is_given_number(0, low) or not is_given_number(0, high) or low[0] * high[1] >= high[0] * low[1]:
        raise InvalidBounds("these are no bounds")


def fallen_rest(line, other, steps):
    """Return the rest of a whole line, times so many times the last number of another one, by this."""
    rest = list(line)
    for _ in range(steps):
        top = rest.pop()
        first = len(rest) - len(other) + 1
        rest = [number * other[-1] for number in rest]
        for at, number in enumerate(other[:-1]):
            rest[first + at] -= top * number
    return trimmed(rest)


def chain_rows(line):
    """Return the list of the triples (whole line, over, under) of the sign chain of a line.

    The first two lines of the chain are these whole lines times over by under, each further one is its whole line
    times over by under times what the line two places ahead is multiplied by. All numbers of the whole lines are
    determinants, so that they are divided, on the way, by what is known to divide them.
    """
    first = lines_exact(0, line, lines_common(0, line, line_slope(0, line)))
    number, whole = cleared(first)
    rows = [(whole, number[0], number[1]), (slope_of_whole(whole), number[0], number[1])]
    steps, by, scale = 2, 1, -1
    while len(rows[-1][0]) > 1:
        above, beside = rows[-2][0], rows[-1][0]
        rest = shared_line(fallen_rest(above, beside, steps), by)
        rows.append((rest, -by, integer_power(beside[-1], steps)))
        scale = integer_power(-beside[-1], steps - 1) // integer_power(scale, steps - 2)
        steps = len(beside) - len(rest) + 1
        by = -beside[-1] * integer_power(scale, steps - 1)
    return rows


def plain_chain(line):
    """Return the sign chain of a line with the unknown."""
    numbers, lines = [], []
    for at, (whole, over, under) in enumerate(chain_rows(line)):
        number = fraction(over, under)
        if at > 1:
            number = times(0, number, numbers[at - 2])
        numbers.append(number)
        lines.append(line_scaled(0, fraction_line(whole), number))
    return tuple(lines)


def signed_lines(line):
    """Return the list of the whole lines that have the signs of the sign chain of a line."""
    signs, lines = [], []
    for at, (whole, over, under) in enumerate(chain_rows(line)):
        sign = 1 if (over > 0) == (under > 0) else -1
        if at > 1:
            sign *= signs[at - 2]
        signs.append(sign)
        lines.append(tuple(number * sign for number in whole))
    return lines


def value_over(line, number):
    """Return the value of a whole line at a fraction, times a power of its under."""
    found, scale = 0, 1
    for part in reversed(line):
        found = found * number[0] + part * scale
        scale *= number[1]
    return found


def changes_at(lines, number):
    """Return how often the sign changes along the values of whole lines at a fraction."""
    values = [value_over(line, number) for line in lines]
    known = [value > 0 for value in values if value]
    return sum([one != other for one, other in zip(known, known[1:])])


def count_roots(line, low, high):
    """Return how many unlike real roots a line with the unknown has from a fraction up to another one."""
    lines = signed_lines(line)
    at_low = 1 if value_over(lines[0], low) == 0 else 0
    return changes_at(lines, low) - changes_at(lines, high) + at_low


def count_poles(thing, low, high):
    """Return how many real poles a rational function has from a fraction up to another one."""
    return count_roots(thing[1], low, high) if len(thing[1]) > 1 else 0


def sign_chain(line):
    """Return the sign chain of a line."""
    need_unknown_line(line)
    return plain_chain(line)


def roots_between(line, low, high):
    """Return how many unlike real roots a line has from a fraction up to another one."""
    need_unknown_line(line)
    need_bounds(low, high)
    return count_roots(line, low, high)


def poles_between(thing, low, high):
    """Return how many real poles a rational function has from a fraction up to another one."""
    need_number(FUNCTIONS, thing)
    need_bounds(low, high)
    return count_poles(thing, low, high)


def value_of(thing, number):
    """Return the value of a rational function at a fraction that is no pole."""
    return times(0, line_value(0, thing[0], number), inverted(0, line_value(0, thing[1], number)))


def definite(thing, low, high):
    """Return the integral of a rational function between two fractions, or that there are poles."""
    need_number(FUNCTIONS, thing)
    need_bounds(low, high)
    many = count_poles(thing, low, high)
    if many:
        return "poles", many
    rational, sums = plain_integral(thing)
    number = minus(0, value_of(rational, high), value_of(rational, low))
    return ("logs", number, sums) if sums else ("rational", number)
