"""Parts of one degree of lines over a prime field, with papers."""

from towerback.chains import common_rows
from towerback.errors import NotSquareFree
from towerback.modlines import mod_common, mod_divided, mod_plus
from towerback.needs import HIGHEST_DEGREE, need_integer, need_monic
from towerback.primes import factors_of
from towerback.rawlines import line_slope, rest_power
from towerback.turns import UNKNOWN, turn_list


def need_square_free(prime, line):
    """Raise the errors of a prime and of a square-free monic line over its field."""
    need_monic(prime, line)
    if len(mod_common(prime, line, line_slope(prime, line))) > 1:
        raise NotSquareFree("the line is divided twice")


def less_unknown(prime, line):
    """Return a line less the unknown."""
    return mod_plus(prime, line, (0, prime - 1))


def split_by_degrees(prime, line):
    """Return the tuple of the pairs (degree, product of all parts of this degree) of a square-free monic line."""
    found = []
    turn = UNKNOWN
    degree = 0
    while len(line) - 1 > 2 * degree + 1:
        degree += 1
        turn = rest_power(prime, turn, prime, line)
        part = mod_common(prime, line, less_unknown(prime, turn))
        if len(part) > 1:
            found.append((degree, part))
            line = mod_divided(prime, line, part)[0]
    if len(line) > 1:
        # No part is left of a degree up to half that of what is left: so it is one part.
        found.append((len(line) - 1, line))
    return tuple(found)


def degree_parts(prime, line):
    """Return the tuple of the pairs (degree, product of all parts of this degree) of a square-free monic line."""
    need_square_free(prime, line)
    return split_by_degrees(prime, line)


def degree_paper_of(prime, line, degree):
    """Return the degree paper of a monic line for a degree, or None if there is none."""
    turns = turn_list(prime, line, degree)
    if turns[degree] != turns[0]:
        return None
    rows = []
    for factor, _, _ in factors_of(degree):
        turn = less_unknown(prime, turns[degree // factor])
        common, by_line, by_turn = common_rows(prime, line, turn)[:3]
        if len(common) > 1:
            return None
        rows.append((factor, by_line, by_turn))
    return tuple(rows)


def degree_paper(prime, line, degree):
    """Return a degree paper of a monic line for a degree, or None if there is none."""
    need_monic(prime, line)
    need_integer(degree, 1, HIGHEST_DEGREE)
    return degree_paper_of(prime, line, degree)
