"""Judges of papers of lines over a prime field."""

from towerback.degreeparts import less_unknown
from towerback.forms import are_lines, has_line_form, is_monic, is_pair
from towerback.integers import is_integer, is_integer_in
from towerback.linegcd import come_to
from towerback.modfactors import need_filled_short
from towerback.needs import HIGHEST_DEGREE, need_integer, need_monic
from towerback.primes import factors_of
from towerback.rawlines import lines_power
from towerback.rawways import lines_times
from towerback.turns import turn_list


def is_degree_row(prime, line, turn, factor, value):
    """Tell whether any value is the triple of a degree paper for a prime factor, with the turn that goes with it."""
    if not isinstance(value, tuple) or len(value) != 3 or not is_integer(value[0]) or value[0] != factor:
        return False
    if not are_lines(prime, value[1:], 2):
        return False
    return come_to(prime, (value[1], line), (value[2], less_unknown(prime, turn)), (1,))


def is_degree_paper(prime, line, degree, value):
    """Tell whether any value is a degree paper of a monic line."""
    factors = [row[0] for row in factors_of(degree)]
    if not isinstance(value, tuple) or len(value) != len(factors):
        return False
    turns = turn_list(prime, line, degree)
    if turns[degree] != turns[0]:
        return False
    for factor, row in zip(factors, value):
        if not is_degree_row(prime, line, turns[degree // factor], factor, row):
            return False
    return True


def is_unsplit_paper(prime, line, value):
    """Tell whether any value is an unsplit paper of a monic line."""
    return is_degree_paper(prime, line, len(line) - 1, value)


def shows_degree(prime, line, degree, value):
    """Tell whether any value is a degree paper of a monic line for a degree."""
    need_monic(prime, line)
    need_integer(degree, 1, HIGHEST_DEGREE)
    return is_degree_paper(prime, line, degree, value)


def shows_unsplit(prime, line, value):
    """Tell whether any value is an unsplit paper of a monic line."""
    need_monic(prime, line)
    return is_unsplit_paper(prime, line, value)


def shows_split(prime, line, value):
    """Tell whether any value is a split paper of a monic line."""
    need_monic(prime, line)
    if not are_lines(prime, value, 2) or not is_monic(prime, value[0]) or not is_monic(prime, value[1]):
        return False
    if len(value[0]) + len(value[1]) != len(line) + 1:
        return False
    return lines_times(prime, value[0], value[1]) == line


def are_counted_lines(prime, value, degree):
    """Tell whether any value is a tuple of triples (monic line, times, any value), ascending, of a degree in all."""
    if not isinstance(value, tuple):
        return False
    last = ()
    for row in value:
        if not isinstance(row, tuple) or len(row) != 3 or not is_integer_in(row[1], 1, HIGHEST_DEGREE):
            return False
        if not has_line_form(prime, row[0]) or not is_monic(prime, row[0]) or row[0] <= last:
            return False
        last = row[0]
        degree -= row[1] * (len(last) - 1)
    return degree == 0


def is_parts_paper(prime, line, value):
    """Tell whether any value is a parts paper of a line that is not nought."""
    if not is_pair(value) or not is_integer_in(value[0], 1, prime - 1):
        return False
    if not are_counted_lines(prime, value[1], len(line) - 1):
        return False
    product = (value[0],)
    for part, times, _ in value[1]:
        product = lines_times(prime, product, lines_power(prime, part, times))
    return product == line and all(is_unsplit_paper(prime, part, paper) for part, _, paper in value[1])


def shows_parts(prime, line, value):
    """Tell whether any value is a parts paper of a line that is not nought."""
    need_filled_short(prime, line)
    return is_parts_paper(prime, line, value)
