"""Point 58: greatest common divisors and least common multiples of integers."""

import math
import unittest

from tests.support import GREATEST, Asks, any_values, chances
from towerback import wholes
from towerback.errors import InvalidNumber, InvalidRow
from towerback.wholes import gcd_paper, gcd_row_paper, lcm_paper, takes_gcd, takes_gcd_row, takes_lcm

WRONG = [value for value in any_values() if not isinstance(value, int)] + [True, False, GREATEST + 1, -GREATEST - 1, 10 ** 119]
GREAT = [GREATEST, -GREATEST, GREATEST - 1, 2 ** 300, -3 ** 200, 6 ** 120]


class Wholes(Asks, unittest.TestCase):
    def pairs(self):
        """Return pairs of integers, small and great ones."""
        small = range(-13, 14)
        return [(a, b) for a in small for b in small] + [(a, b) for a in GREAT for b in GREAT + [0, 1, -7]]

    def test_gcd_papers(self):
        for one, other in self.pairs():
            paper = gcd_paper(one, other)
            d, u, v, p, q = paper
            self.assertIs(takes_gcd(one, other, paper), True)
            self.assertEqual(d, math.gcd(one, other))
            self.assertEqual((u * one + v * other, p * d, q * d), (d, one, other))
            self.assertLessEqual(abs(u), max(1, abs(other)))
            self.assertLessEqual(abs(v), max(1, abs(one)))
            self.assertTrue(all(type(part) is int for part in paper))
        self.assertEqual(gcd_paper(0, 0), (0, 0, 0, 0, 0))
        self.assertEqual(gcd_paper(12, -18)[0], 6)

    def test_gcd_papers_that_others_may_tell(self):
        self.assertTrue(takes_gcd(12, 18, (6, -1, 1, 2, 3)))
        self.assertTrue(takes_gcd(12, 18, (6, 2, -1, 2, 3)))
        self.assertTrue(takes_gcd(12, 18, (6, -1 + 3 * 10 ** 110, 1 - 2 * 10 ** 110, 2, 3)))
        self.assertTrue(takes_gcd(0, 5, (5, 77, 1, 0, 1)))
        self.assertTrue(takes_gcd(0, 0, (0, 4, -3, 9, 9)))
        for paper in ((-6, 1, -1, -2, -3), (3, -1, 1, 4, 6), (6, -1, 1, 2, 4), (6, 1, 1, 2, 3), (2, 0, 0, 6, 9),
                      [6, -1, 1, 2, 3], (6, -1, True, 2, 3), (6, -1, 1, 2), (6, -1, 1, 2, 3, 0), (6, -1, 1, 2, "3")):
            self.assertIs(takes_gcd(12, 18, paper), False, paper)
        self.assertFalse(takes_gcd(0, 0, (1, 0, 0, 0, 0)))
        self.assertFalse(takes_gcd(0, 0, (False, 0, 0, 0, 0)))

    def test_lcm_papers(self):
        for one, other in self.pairs():
            paper = lcm_paper(one, other)
            m, s, t, u, v = paper
            self.assertIs(takes_lcm(one, other, paper), True, (one, other, paper))
            self.assertEqual(m, math.lcm(one, other))
            self.assertEqual((one * s, other * t, u * s + v * t), (m, m, 1))
            self.assertTrue(all(type(part) is int for part in paper))
        self.assertEqual(lcm_paper(4, -6)[0], 12)

    def test_lcm_papers_that_others_may_tell(self):
        self.assertTrue(takes_lcm(4, 6, (12, 3, 2, 1, -1)))
        self.assertTrue(takes_lcm(4, 6, (12, 3, 2, 3, -4)))
        self.assertTrue(takes_lcm(0, 0, (0, 2, 3, -1, 1)))
        for paper in ((24, 6, 4, 1, -1), (-12, -3, -2, -1, 1), (12, 3, 2, 1, 1), (12, 2, 3, 1, -1), (0, 0, 0, 0, 0)):
            self.assertIs(takes_lcm(4, 6, paper), False, paper)
        self.assertFalse(takes_lcm(0, 0, (0, 0, 0, 0, 0)))
        self.assertFalse(takes_lcm(0, 5, (5, 1, 1, 1, 0)))

    def test_row_papers(self):
        rows = [(0,), (7,), (-7,), (0, 0), (0, 0, 0, 0, 0, 0), (6, 10, 15), (4, -6, 0), (0, 9, 6, 3, 12, -27), (1, 1), (-1, 0)]
        chance = chances(1)
        rows += [tuple(chance.randint(-60, 60) for _ in range(chance.randint(1, 6))) for _ in range(60)]
        rows += [tuple(GREAT), (GREATEST,) * 6, (-GREATEST, GREATEST - 1)]
        for row in rows:
            paper = gcd_row_paper(row)
            self.assertIs(takes_gcd_row(row, paper), True, (row, paper))
            d, multipliers, quotients = paper
            self.assertEqual(d, math.gcd(*row))
            self.assertEqual((len(multipliers), len(quotients)), (len(row), len(row)))
            self.assertEqual(sum(a * b for a, b in zip(row, multipliers)), d)
            self.assertEqual(tuple(d * q for q in quotients), row)

    def test_row_papers_that_others_may_tell(self):
        self.assertTrue(takes_gcd_row((6, 10, 15), (1, (1, 1, -1), (6, 10, 15))))
        self.assertTrue(takes_gcd_row((6, 10, 15), (1, (-14, 7, 1), (6, 10, 15))))
        self.assertTrue(takes_gcd_row((0, 0), (0, (5, 6), (7, 8))))
        for paper in ((1, (1, 1, 1), (6, 10, 15)), (1, (1, 1, -1), (6, 10, 14)), (-1, (-1, -1, 1), (-6, -10, -15)),
                      (1, (1, 1, -1), (6, 10)), (1, (1, 1), (6, 10, 15)), (1, [1, 1, -1], (6, 10, 15)), (2, (2, 2, -2), (3, 5, 7)),
                      (True, (1, 1, -1), (6, 10, 15)), (1, (True, 1, -1), (6, 10, 15)), (1, (1, 1, -1, 0), (6, 10, 15))):
            self.assertIs(takes_gcd_row((6, 10, 15), paper), False, paper)

    def test_spoilt_papers(self):
        self.judges(takes_gcd, (12, 18), gcd_paper(12, 18))
        self.judges(takes_gcd, (-35, 21), gcd_paper(-35, 21))
        self.judges(takes_lcm, (4, -6), lcm_paper(4, -6))
        self.judges(takes_lcm, (GREATEST, 7), lcm_paper(GREATEST, 7))
        self.judges(takes_gcd_row, ((6, 10, 15),), gcd_row_paper((6, 10, 15)))
        self.judges(takes_gcd_row, ((9,),), gcd_row_paper((9,)))

    def test_wrong_integers(self):
        for function, behind in ((gcd_paper, ()), (lcm_paper, ()), (takes_gcd, (None,)), (takes_lcm, (None,))):
            self.refuses_all(InvalidNumber, function, (), WRONG, (1,) + behind)
            self.refuses_all(InvalidNumber, function, (1,), WRONG, behind)

    def test_wrong_rows(self):
        wrong = [value for value in any_values() if value != (0,)] + [(), (1,) * 7, [1, 2], (1, GREATEST + 1), (1, True), (1, 2, "3")]
        for value in wrong:
            self.refused(InvalidRow, gcd_row_paper, value)
            self.refused(InvalidRow, takes_gcd_row, value, None)

    def test_each_name_is_defined_here(self):
        for name in "gcd_paper lcm_paper gcd_row_paper takes_gcd takes_lcm takes_gcd_row".split():
            self.assertEqual(getattr(wholes, name).__module__, "towerback.wholes")


if __name__ == "__main__":
    unittest.main()
