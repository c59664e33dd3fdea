"""Resultants of lines, with papers."""

from towerback.chains import rests_of, ring_form, ring_one, sorted_chain, subresultant_under, told_line, told_times
from towerback.forms import are_lines, has_number_form
from towerback.linegcd import come_to
from towerback.needs import need_two_filled
from towerback.rawways import inverted, line_negated, lines_divided, lines_exact, nought_of, one_of


def sylvester(field, one, other):
    """Return the table of two lines for the index 0 and the column 0."""
    need_two_filled(field, one, other)
    width = len(one) + len(other) - 2
    rows = [shifted_row(field, one, power, width) for power in reversed(range(len(other) - 1))]
    rows.extend([shifted_row(field, other, power, width) for power in reversed(range(len(one) - 1))])
    return tuple(rows)


def shifted_row(field, line, power, width):
    """Return the row of so many numbers, the highest first, of a line times a power of the unknown."""
    nought = nought_of(field)
    return (nought,) * (width - power - len(line)) + tuple(reversed(line)) + (nought,) * power


def forms_and_chain(field, one, other, times):
    """Return what ring_form returns of each of two lines, and their chain."""
    above, beside = ring_form(field, one), ring_form(field, other)
    return above, beside, sorted_chain(field, above[0], beside[0], times)


def resultant_line(field, above, beside, chain):
    """Return the line of the resultant alone, from what forms_and_chain returns."""
    if len(above[0]) == 1 and len(beside[0]) == 1:
        return (one_of(field),)
    if not chain or chain[-1][0] > 0:
        return ()
    return told_line(field, chain[-1][1], subresultant_under(field, above, beside, 0))


def number_of_line(field, line):
    """Return the number of a line of one number, the nought for ()."""
    return line[0] if line else nought_of(field)


def resultant(field, one, other):
    """Return the resultant of two lines."""
    need_two_filled(field, one, other)
    above, beside, chain = forms_and_chain(field, one, other, ())
    return number_of_line(field, resultant_line(field, above, beside, chain))


def quotients_of(field, rests):
    """Return the tuple of the quotients of each rest by the next one, as long as this has the degree 1 or more."""
    found = []
    for rest, behind in zip(rests, rests[1:]):
        if len(behind) == 1:
            break
        found.append(lines_divided(field, rest, behind)[0])
    return tuple(found)


def resultant_paper(field, one, other):
    """Return a paper (number, quotients, u, v) of the resultant of two lines."""
    need_two_filled(field, one, other)
    above, beside, chain = forms_and_chain(field, one, other, ring_one(field))
    line = resultant_line(field, above, beside, chain)
    rests = rests_of(field, one, other, chain)
    if not line:
        first, second = lines_exact(field, other, rests[-1]), line_negated(field, lines_exact(field, one, rests[-1]))
    elif not chain:
        first, second = (inverted(field, one[0]),), ()
    else:
        first, second = told_times(field, above, beside, chain[-1][1:], subresultant_under(field, above, beside, 0))
    return number_of_line(field, line), quotients_of(field, rests), first, second


def is_resultant_paper(field, one, other, value):
    """Tell whether any value is a paper of the resultant of two lines."""
    need_two_filled(field, one, other)
    if not isinstance(value, tuple) or len(value) != 4 or not are_lines(field, value[2:], 2):
        return False
    number, quotients, first, second = value
    if not has_number_form(field, number) or not isinstance(quotients, tuple):
        return False
    if not are_lines(field, quotients, len(quotients)):
        return False
    if len(first) > max(1, len(other) - 1) or len(second) > max(1, len(one) - 1) or not (first or second):
        return False
    line = () if number == nought_of(field) else (number,)
    if not come_to(field, (first, one), (second, other), line):
        return False
    above, beside, chain = forms_and_chain(field, one, other, ())
    if resultant_line(field, above, beside, chain) != line:
        return False
    return quotients_of(field, rests_of(field, one, other, chain)) == quotients
