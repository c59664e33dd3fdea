"""Powers of the unknown by the prime, over and over, by a monic line over a prime field."""

from towerback.needs import need_integer, need_monic, need_short_line
from towerback.rawlines import rest_power
from towerback.rawways import lines_divided

MOST_TURNS = 32
UNKNOWN = (0, 1)


def prime_power(prime, line, other):
    """Return the rest of another line, to the power of the prime, by a monic line."""
    need_monic(prime, line)
    need_short_line(prime, other)
    return rest_power(prime, other, prime, line)


def turn_list(prime, line, many):
    """Return the list of the turns of a monic line from 0 to so many."""
    turns = [lines_divided(prime, UNKNOWN, line)[1]]
    for _ in range(many):
        turns.append(rest_power(prime, turns[-1], prime, line))
    return turns


def turns_of(prime, line, many):
    """Return the list of the turns of a monic line from 0 to so many."""
    need_monic(prime, line)
    need_integer(many, 0, MOST_TURNS)
    return turn_list(prime, line, many)
