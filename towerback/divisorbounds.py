"""How great the numbers of a divisor of a whole line can be."""

from math import lcm
from towerback.lineroots import value_of_whole
from towerback.needs import need_integer
from towerback.nested import nested_times
from towerback.wholeways import WHOLE, half_degree, need_filled_whole

MOST_POINTS = 40


def first_points(line, many):
    """Return the list of the first so many points of a whole line that is not nought."""
    found = []
    turn = 0
    while len(found) < many:
        # The turns 0, 1, 2, 3, 4 and so on stand for 0, 1, -1, 2, -2.
        point = -(turn // 2) if turn % 2 == 0 else turn // 2 + 1
        if value_of_whole(line, point):
            found.append(point)
        turn += 1
    return found


def told_by_values(points, at):
    """Return the pair (line, integer) whose quotient is 1 at the point with an index, and 0 at the others."""
    line, under = (1,), 1
    for point in points[:at] + points[at + 1:]:
        line = nested_times(WHOLE, line, (-point, 1))
        under *= points[at] - point
    return line, under


def bound_of(line):
    """Return the bound of a whole line that is not nought."""
    points = first_points(line, half_degree(line) + 1)
    pairs = [told_by_values(points, at) for at in range(len(points))]
    common = 1
    for _, under in pairs:
        common = lcm(common, under)
    sums = [0] * len(points)
    for point, (other, under) in zip(points, pairs):
        by = abs(value_of_whole(line, point)) * (common // abs(under))
        sums = [total + by * abs(number) for total, number in zip(sums, other)]
    return max(sums) // common


def points_of(line, many):
    """Return the list of the first so many points of a whole line."""
    need_filled_whole(line)
    need_integer(many, 0, MOST_POINTS)
    return first_points(line, many)


def divisor_bound(line):
    """Return the bound of a whole line."""
    need_filled_whole(line)
    return bound_of(line)
