"""The chain of the subresultants of two lines, without any checks, and what comes of it.

Over a field without roots the chain goes through nested whole lines (nested.py), over one with roots through
lines over the field itself; where there are such lines, here, a line is said to be of the ring of the field.
All quotients on the way come out even. A row of the chain is a pair (line, times): the line is the longer one
of the two lines times the latter, and the shorter one times some line that is not kept.
"""

from towerback.nested import nested_constant, nested_exact, nested_minus, nested_times
from towerback.rawways import inverted, line_scaled, lines_common, lines_divided, lines_exact, lines_minus, lines_times
from towerback.rawways import monic_of, nought_of, one_of
from towerback.wholeforms import has_whole_forms, line_of_whole, whole_line


def is_nested(field):
    """Tell whether the lines of the ring of a field are nested whole lines."""
    return isinstance(field, int) or has_whole_forms(field)


def ring_form(field, line):
    """Return the pair of a line of the ring, and of a number of the ring by which it is a line over the field."""
    return whole_line(field, line) if is_nested(field) else (line, one_of(field))


def told_line(field, line, under):
    """Return the line over a field that a line of its ring is by a number of the ring."""
    if is_nested(field):
        return line_of_whole(field, line, under)
    return line_scaled(field, line, inverted(field, under))


def ring_one(field):
    """Return the line of one of the ring of a field."""
    return (nested_constant(field, 1),) if is_nested(field) else (one_of(field),)


def ring_times(field, one, other):
    """Return the product of two lines of the ring of a field."""
    return nested_times(("quot", field), one, other) if is_nested(field) else lines_times(field, one, other)


def ring_minus(field, one, other):
    """Return the difference of two lines of the ring of a field."""
    return nested_minus(("quot", field), one, other) if is_nested(field) else lines_minus(field, one, other)


def ring_exact(field, line, other):
    """Return the quotient of two lines of the ring of a field, that comes out even."""
    return nested_exact(("quot", field), line, other) if is_nested(field) else lines_divided(field, line, other)[0]


def ring_power(field, line, power):
    """Return a power of a line of the ring of a field."""
    found = ring_one(field)
    for _ in range(power):
        found = ring_times(field, found, line)
    return found


def ring_shifted(field, line, power):
    """Return a line of the ring of a field times a power of its unknown."""
    nought = nested_constant(field, 0) if is_nested(field) else nought_of(field)
    return (nought,) * power + line if line else ()


def need_inverse(field, line):
    """Raise ByNought if the last number of a line of the ring has no inverse, as may be with roots."""
    if not is_nested(field):
        inverted(field, line[-1])


def row_times(field, row, line):
    """Return a row, both of its lines times a line."""
    return ring_times(field, row[0], line), ring_times(field, row[1], line)


def row_exact(field, row, line):
    """Return a row, both of its lines by a line of one number."""
    if is_nested(field):
        return ring_exact(field, row[0], line), ring_exact(field, row[1], line)
    by = inverted(field, line[0])
    return line_scaled(field, row[0], by), line_scaled(field, row[1], by)


def row_fallen(field, row, behind):
    """Return the rest of a row by the next one, the row being multiplied, ahead of each step, by its last number.

    It is taken the other way at each step, so that the signs are those of subresultants.
    """
    line, times = row
    lead = (behind[0][-1],)
    for power in reversed(range(len(line) - len(behind[0]) + 1)):
        place = power + len(behind[0]) - 1
        top = (line[place],) if len(line) > place else ()
        step = row_times(field, behind, top)
        line, times = row_times(field, (line, times), lead)
        line = ring_minus(field, ring_shifted(field, step[0], power), line)
        times = ring_minus(field, ring_shifted(field, step[1], power), times)
    return line, times


def chain_of(field, one, other, times):
    """Return the list of triples (index, subresultant, times) of two lines of the ring, the first not the shorter one.

    The highest index comes first; subresultants that are nought are left out. The times that are handed in are
    those of the first line: the line of one, or () if no times are asked for.
    """
    high, low = len(one) - 1, len(other) - 1
    lead = (other[-1],)
    found = []
    if high > low:
        first = ring_times(field, ring_power(field, lead, high - low - 1), other)
        # With roots of a line that can be split, a power of a number can be nought.
        if first:
            found.append((low, first, ()))
    if low == 0:
        return found
    need_inverse(field, other)
    scale = ring_power(field, lead, high - low)
    row, behind = (other, ()), row_fallen(field, (one, times), (other, ()))
    while behind[0]:
        index, degree = len(row[0]) - 2, len(behind[0]) - 1
        found.append((index,) + behind)
        need_inverse(field, behind[0])
        regular = behind
        if degree < index:
            by = ring_power(field, (behind[0][-1],), index - degree)
            regular = row_exact(field, row_times(field, behind, by), ring_power(field, scale, index - degree))
            found.append((degree,) + regular)
        if degree == 0:
            break
        by = ring_times(field, ring_power(field, scale, index - degree + 1), (row[0][-1],))
        row, behind = regular, row_exact(field, row_fallen(field, row, behind), by)
        scale = (regular[0][-1],)
    return found


def sorted_chain(field, one, other, times):
    """Return the chain of two lines of the ring, not (), the longer one being taken first."""
    if len(one) < len(other):
        one, other = other, one
    return chain_of(field, one, other, times)


def both_times(field, one, other, line, times):
    """Return the times of both lines of the ring for a line of their chain, from those of the longer one."""
    if len(one) < len(other):
        return tuple(reversed(both_times(field, other, one, line, times)))
    return times, ring_exact(field, ring_minus(field, line, ring_times(field, times, one)), other)


def told_times(field, one, other, row, under):
    """Return the lines over a field by which two of its lines come to a row's line by a number of the ring.

    Each of the two lines is handed in as the pair that ring_form returns.
    """
    above, beside = both_times(field, one[0], other[0], row[0], row[1])
    above = told_line(field, ring_times(field, above, (one[1],)), under)
    return above, told_line(field, ring_times(field, beside, (other[1],)), under)


def constant_line(field, line):
    """Return the line of one by a line of one number."""
    return (inverted(field, line[0]),)


def apart_times(field, one, other):
    """Return (u, v) with u one + v other = one, u as short as can be, and then v, of lines that are apart."""
    if len(other) == 1:
        return (), constant_line(field, other)
    if len(one) == 1:
        return constant_line(field, one), ()
    above, beside = ring_form(field, one), ring_form(field, other)
    found = sorted_chain(field, above[0], beside[0], ring_one(field))[-1]
    return told_times(field, above, beside, found[1:], found[1][0])


def common_rows(field, one, other):
    """Return (d, u, v, a, b): the greatest common divisor d = u one + v other, one = a d, other = b d."""
    common = lines_common(field, one, other)
    if not common:
        return (), (), (), (), ()
    above, beside = lines_exact(field, one, common), lines_exact(field, other, common)
    return (common,) + apart_times(field, above, beside) + (above, beside)


def subresultant_under(field, one, other, index):
    """Return the number of the ring by which the line of the chain with an index is a subresultant.

    The lines are handed in as the pairs that ring_form returns.
    """
    less, more = len(other[0]) - 1 - index, len(one[0]) - 1 - index
    under = ring_times(field, ring_power(field, (one[1],), less), ring_power(field, (other[1],), more))
    # The chain is that of the longer line and the shorter one: their rows stand in the other order in tables.
    if len(one[0]) < len(other[0]) and less * more % 2 == 1:
        under = ring_minus(field, (), under)
    return under[0]


def rests_of(field, one, other, chain):
    """Return the rests of Euclid's way of two lines, not (), that are not (), from their chain."""
    rests = [monic_of(field, one), monic_of(field, other)]
    if len(one) < len(other):
        rests.append(rests[0])
    for row in chain:
        if len(row[1]) < len(rests[-1]):
            rests.append(told_line(field, row[1], row[1][-1]))
    return rests
