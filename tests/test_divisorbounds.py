"""Points 19 and 82: how great the numbers of a divisor can be."""

import unittest
from fractions import Fraction

from tests.support import GREATEST, Asks, any_values, chances
from tests.wholes_by_trial import no_wholes, plain_divisors, product_of, told_by, value_at
from towerback import divisorbounds
from towerback.divisorbounds import divisor_bound, points_of
from towerback.errors import InvalidNumber, InvalidWhole

LINES = [(7,), (-7,), (0, 1), (6, 5, 1), (-6, 5, -1), (1, 0, 0, 0, 1), (0, -1, 0, 1), (0, 0, 0, 5, -3), (-4, 0, 8, 0, -4)]


def plain_points(line, many):
    """Return the first so many points of a line."""
    order = [0] + [number for k in range(1, 60) for number in (k, -k)]
    return [number for number in order if value_at(line, number)][:many]


def plain_bound(line):
    """Return the bound of a line, word by word."""
    points = plain_points(line, (len(line) - 1) // 2 + 1)
    sums = [Fraction(0)] * len(points)
    for j, point in enumerate(points):
        told = told_by(points, [int(k == j) for k in range(len(points))])
        sums = [total + abs(value_at(line, point) * part) for total, part in zip(sums, told)]
    return max(sums).__floor__()


class DivisorBounds(Asks, unittest.TestCase):
    def test_points(self):
        for line in LINES + [product_of([(-k, 1) for k in range(-6, 6)])]:
            for many in (0, 1, 2, 3, 7, 39, 40):
                found = points_of(line, many)
                self.assertIs(type(found), list)
                self.assertEqual(found, plain_points(line, many))
                found.clear()
                self.assertEqual(len(points_of(line, many)), many)
        self.assertEqual(points_of((5,), 5), [0, 1, -1, 2, -2])
        self.assertEqual(points_of((0, -1, 1), 3), [-1, 2, -2])

    def test_bounds(self):
        chance = chances(19)
        for line in LINES:
            self.assertEqual(divisor_bound(line), plain_bound(line))
        for most in (1, 3, 30, GREATEST):
            for degree in range(13):
                line = tuple(chance.randint(-most, most) for _ in range(degree)) + (chance.choice((-most, most, 1)),)
                self.assertEqual(divisor_bound(line), plain_bound(line))
        self.assertEqual([divisor_bound((1, 0, 0, 0, 1)), divisor_bound((6, 5, 1)), divisor_bound((7,))], [3, 18, 7])

    def test_divisors_are_within_the_bound(self):
        chance = chances(20)
        for _ in range(40):
            line = tuple(chance.randint(-6, 6) for _ in range(chance.randint(1, 3))) + (chance.choice((1, 2, -3)),)
            other = tuple(chance.randint(-6, 6) for _ in range(len(line) - 1)) + (chance.choice((1, 4)),)
            product = product_of([line, other])
            bound = divisor_bound(product)
            for divisor in (line, other):
                self.assertLessEqual(max(map(abs, divisor)), bound)
        for line in ((6, 5, 1), (-4, 0, 8, 0, -4), (12, -7, 1), (6, 11, 6, 1)):
            found = plain_divisors(line, 1)
            self.assertTrue(found)
            for divisor in found:
                self.assertLessEqual(max(map(abs, divisor)), divisor_bound(line))

    def test_wrong_arguments(self):
        self.refuses_all(InvalidWhole, points_of, (), no_wholes() + [()], (None,))
        self.refuses_all(InvalidWhole, divisor_bound, (), no_wholes() + [()])
        self.refuses_all(InvalidNumber, points_of, ((5, 1),), any_values() + [-1, 41])
        self.assertEqual(points_of((1,) * 13, 0), [])

    def test_each_name_is_defined_here(self):
        for name in "points_of divisor_bound".split():
            self.assertEqual(getattr(divisorbounds, name).__module__, "towerback.divisorbounds")


if __name__ == "__main__":
    unittest.main()
