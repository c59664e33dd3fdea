"""Point 61: joined remainders."""

import math
import unittest

from tests.support import GREATEST, Asks, any_values, chances
from towerback import remainders
from towerback.errors import InvalidNumber, InvalidRow
from towerback.remainders import joined_paper, joined_row_paper, takes_joined, takes_joined_row
from towerback.wholes import takes_gcd_row, takes_lcm

WRONG = any_values() + [GREATEST + 1, -GREATEST - 1]


class Remainders(Asks, unittest.TestCase):
    def check_pair(self, one, by_one, other, by_other):
        paper = joined_paper(one, by_one, other, by_other)
        self.assertIs(takes_joined(one, by_one, other, by_other, paper), True, (one, by_one, other, by_other, paper))
        if (one - other) % math.gcd(by_one, by_other):
            word, g, p, q = paper
            self.assertEqual((word, p * g, q * g), ("none", by_one, by_other))
            self.assertTrue(g >= 1 and (one - other) % g)
        else:
            word, x, least, s, t, multiple = paper
            self.assertEqual((word, least), ("joined", math.lcm(by_one, by_other)))
            self.assertEqual((one + by_one * s, other + by_other * t), (x, x))
            self.assertTrue(0 <= x < least and multiple[0] == least and takes_lcm(by_one, by_other, multiple))

    def test_pairs(self):
        for by_one in range(1, 9):
            for by_other in range(1, 9):
                for one in range(-3, 9):
                    for other in range(-3, 9):
                        self.check_pair(one, by_one, other, by_other)
        for numbers in ((GREATEST, GREATEST, -GREATEST, GREATEST - 1), (GREATEST, 1, 3, GREATEST), (5, GREATEST, 7, GREATEST), (0, 1, 0, 1)):
            self.check_pair(*numbers)

    def test_pairs_that_others_may_tell(self):
        self.assertTrue(takes_joined(1, 4, 2, 6, ("none", 2, 2, 3)))
        self.assertTrue(takes_joined(1, 12, 4, 24, ("none", 12, 1, 2)))
        self.assertTrue(takes_joined(1, 12, 4, 24, ("none", 2, 6, 12)))
        self.assertFalse(takes_joined(1, 12, 4, 24, ("none", 3, 4, 8)))
        self.assertFalse(takes_joined(1, 12, 4, 24, ("none", -2, -6, -12)))
        self.assertFalse(takes_joined(1, 4, 2, 6, ("none", 1, 4, 6)))
        paper = ("joined", 5, 12, 1, 0, (12, 3, 2, 1, -1))
        self.assertTrue(takes_joined(1, 4, 5, 6, paper))
        self.assertTrue(takes_joined(1, 4, 5, 6, paper[:5] + ((12, 3, 2, -1, 2),)))
        self.assertFalse(takes_joined(1, 4, 5, 6, ("joined", 17, 12, 4, 2, (12, 3, 2, 1, -1))))
        self.assertFalse(takes_joined(1, 4, 5, 6, ("joined", 5, 24, 1, 0, (24, 6, 4, 1, -1))))
        self.assertFalse(takes_joined(1, 4, 5, 6, ("joined", -7, 12, -2, -2, (12, 3, 2, 1, -1))))
        self.assertFalse(takes_joined(0, 2, 0, 3, ("joined", 6, 6, 3, 2, (6, 3, 2, 1, -1))))
        self.assertTrue(takes_joined(0, 2, 0, 3, ("joined", 0, 6, 0, 0, (6, 3, 2, 1, -1))))
        self.assertFalse(takes_joined(0, 1, 0, 1, ("joined", False, 1, 0, 0, (1, 1, 1, 1, 0))))

    def check_row(self, pairs):
        paper = joined_row_paper(pairs)
        self.assertIs(takes_joined_row(pairs, paper), True, (pairs, paper))
        if paper[0] == "joined":
            word, x, least, quotients, divisor = paper
            self.assertEqual(least, math.lcm(*(modulus for _, modulus in pairs)))
            self.assertEqual(quotients, tuple(least // modulus for _, modulus in pairs))
            self.assertTrue(0 <= x < least and all((x - number) % modulus == 0 for number, modulus in pairs))
            self.assertEqual(divisor[0], 1)
            if max(quotients) <= GREATEST:
                self.assertTrue(takes_gcd_row(quotients, divisor))
            return True
        word, i, j, none = paper
        self.assertEqual(word, "none")
        self.assertTrue(takes_joined(*pairs[i], *pairs[j], none))
        self.assertEqual(none[0], "none")
        return False

    def test_rows(self):
        chance, found = chances(2), []
        for _ in range(300):
            many = chance.randint(1, 6)
            found.append(self.check_row(tuple((chance.randint(-30, 30), chance.choice((1, 2, 3, 4, 6, 9, 12))) for _ in range(many))))
            x = chance.randint(-1000, 1000)
            moduli = [chance.randint(1, 40) for _ in range(many)]
            self.assertTrue(self.check_row(tuple((x % modulus - modulus * chance.randint(0, 2), modulus) for modulus in moduli)))
        self.assertEqual(set(found), {True, False})
        self.assertTrue(self.check_row(((0, 1),)))
        self.assertTrue(self.check_row(((-5, 7),)))
        self.assertTrue(self.check_row(((1, GREATEST), (2, GREATEST - 1))))
        great = (1, GREATEST - 1), (2, GREATEST), (1, 7), (3, 11), (GREATEST, GREATEST - 2), (-GREATEST, 1)
        self.assertFalse(self.check_row(great))
        self.assertTrue(self.check_row(((1, GREATEST - 1), (2, GREATEST), (0, 7), (3, 13), (5, 17), (-GREATEST, 1))))
        self.assertEqual(joined_row_paper(((1, 2), (2, 3), (0, 5)))[:4], ("joined", 5, 30, (15, 10, 6)))

    def test_rows_that_others_may_tell(self):
        pairs = ((1, 4), (2, 6), (3, 4))
        for paper in (("none", 0, 1, ("none", 2, 2, 3)), ("none", 1, 0, ("none", 2, 3, 2)), ("none", 0, 2, ("none", 4, 1, 1)),
                      ("none", 2, 1, ("none", 2, 2, 3))):
            self.assertTrue(takes_joined_row(pairs, paper), paper)
        for paper in (("none", 0, 1, ("none", 2, 3, 2)), ("none", 0, 3, ("none", 2, 2, 3)), ("none", -3, 1, ("none", 2, 2, 3)),
                      ("none", 3, 0, ("none", 2, 2, 3)), ("none", 1, -3, ("none", 2, 3, 2)),
                      ("none", 0, 0, ("none", 4, 1, 1)), ("none", False, True, ("none", 2, 2, 3)), ("none", 0, 1, None)):
            self.assertIs(takes_joined_row(pairs, paper), False, paper)
        zero = ((0, 2), (0, 3))
        self.assertTrue(takes_joined_row(zero, ("joined", 0, 6, (3, 2), (1, (1, -1), (3, 2)))))
        self.assertFalse(takes_joined_row(zero, ("joined", 6, 6, (3, 2), (1, (1, -1), (3, 2)))))
        good = ((1, 2), (2, 3))
        self.assertTrue(takes_joined_row(good, ("joined", 5, 6, (3, 2), (1, (1, -1), (3, 2)))))
        self.assertTrue(takes_joined_row(good, ("joined", 5, 6, (3, 2), (1, (-1, 2), (3, 2)))))
        for paper in (("joined", 11, 12, (6, 4), (2, (1, -1), (3, 2))), ("joined", 11, 6, (3, 2), (1, (1, -1), (3, 2))),
                      ("joined", 5, 12, (6, 4), (1, (1, -1), (6, 4))), ("joined", -1, 6, (3, 2), (1, (1, -1), (3, 2)))):
            self.assertIs(takes_joined_row(good, paper), False, paper)

    def test_spoilt_papers(self):
        self.judges(takes_joined, (1, 4, 5, 6), joined_paper(1, 4, 5, 6))
        self.judges(takes_joined, (1, 4, 2, 6), ("none", 2, 2, 3))
        self.judges(takes_joined_row, (((1, 2), (2, 3), (0, 5)),), joined_row_paper(((1, 2), (2, 3), (0, 5))))
        self.judges(takes_joined_row, (((1, 4), (2, 6)),), joined_row_paper(((1, 4), (2, 6))))

    def test_wrong_integers(self):
        good = (1, 4, 2, 6)
        for at in range(4):
            for value in WRONG + ([0, -1] if at % 2 else []):
                numbers = good[:at] + (value,) + good[at + 1:]
                self.refused(InvalidNumber, joined_paper, *numbers)
                self.refused(InvalidNumber, takes_joined, *numbers, None)

    def test_wrong_rows(self):
        wrong = any_values() + [(), ((1, 2),) * 7, [(1, 2)], ([1, 2],), ((1, 0),), ((1, -2),), ((GREATEST + 1, 2),), ((1, GREATEST + 1),)]
        wrong += [((1, 2), (True, 3)), ((1, 2), (1, True)), ((1, 2, 3),), ((1,),), ((1, 2), None)]
        for value in wrong:
            self.refused(InvalidRow, joined_row_paper, value)
            self.refused(InvalidRow, takes_joined_row, value, None)

    def test_each_name_is_defined_here(self):
        for name in "joined_paper takes_joined joined_row_paper takes_joined_row".split():
            self.assertEqual(getattr(remainders, name).__module__, "towerback.remainders")


if __name__ == "__main__":
    unittest.main()
