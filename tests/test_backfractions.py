"""Point 62: small fractions that come to a number by a modulus."""

import unittest

from tests.support import GREATEST, Asks, any_values
from towerback import backfractions
from towerback.backfractions import back_paper, takes_back
from towerback.errors import InvalidNumber

WRONG = any_values() + [GREATEST + 1]


def is_there(modulus, number, over, under):
    """Tell whether some fraction is within the bounds."""
    for d in range(1, min(under, modulus) + 1):
        rest = number * d % modulus
        if rest <= over or modulus - rest <= over:
            return True
    return False


class Backfractions(Asks, unittest.TestCase):
    def check(self, modulus, number, over, under):
        paper = back_paper(modulus, number, over, under)
        self.assertIs(takes_back(modulus, number, over, under, paper), True, (modulus, number, over, under, paper))
        if paper[0] == "back":
            _, n, d, k = paper
            self.assertEqual(n, number * d - k * modulus)
            self.assertTrue(-over <= n <= over and 1 <= d <= under)
            return True
        _, (r, t, s), (r2, t2, s2) = paper
        self.assertEqual((r, r2), (t * number + s * modulus, t2 * number + s2 * modulus))
        self.assertTrue(r > over and r2 >= 0 and abs(t2) > under and t * t2 <= 0)
        self.assertEqual(r * abs(t2) + r2 * abs(t), modulus)
        return False

    def test_small_ones(self):
        for modulus in (2, 3, 5, 12, 17, 30):
            for number in range(modulus):
                for over in (0, 1, 2, 3, 5, modulus - 1, modulus, modulus + 3):
                    for under in (1, 2, 3, 4, 7, modulus, modulus + 3):
                        told = is_there(modulus, number, over, under)
                        self.assertIs(self.check(modulus, number, over, under), told, (modulus, number, over, under))

    def test_great_ones(self):
        half = 10 ** 49
        number = 12345 * pow(67891, -1, GREATEST) % GREATEST
        self.assertEqual(back_paper(GREATEST, number, half, half)[1:3], (12345, 67891))
        self.assertTrue(self.check(GREATEST, GREATEST - 1, 1, 1))
        self.assertFalse(self.check(GREATEST, number, 5, 5))
        self.assertTrue(self.check(GREATEST, number, GREATEST, 1))
        self.assertTrue(self.check(2, 1, GREATEST, GREATEST))
        self.assertTrue(self.check(GREATEST, number, 0, GREATEST))

    def test_others_may_tell(self):
        self.assertTrue(takes_back(7, 5, 1, 3, ("back", 1, 3, 2)))
        self.assertTrue(takes_back(7, 5, 9, 9, ("back", -7, 7, 6)))
        self.assertTrue(takes_back(7, 5, 9, 9, ("back", 5, 1, 0)))
        self.assertTrue(takes_back(7, 5, 1, 2, ("none", (2, -1, 1), (1, 3, -2))))
        self.assertFalse(takes_back(7, 5, 2, 2, ("none", (2, -1, 1), (1, 3, -2))))
        self.assertFalse(takes_back(7, 5, 1, 3, ("none", (2, -1, 1), (1, 3, -2))))
        self.assertTrue(takes_back(8, 4, 3, 1, ("none", (4, 1, 0), (0, -2, 1))))
        self.assertFalse(takes_back(8, 4, 3, 1, ("none", (4, 1, 0), (0, 2, -1))))
        for paper in (("back", 1, 3, 3), ("back", 8, 3, 1), ("back", -1, -3, -2), ("back", 0, 0, 0), ("back", 1, 3), ("back", 1, 10, 7),
                      ("back", True, 3, 2), ["back", 1, 3, 2], ("none", (2, -1, 1), (1, 3, -2))):
            self.assertIs(takes_back(7, 5, 1, 3, paper), False, paper)
        for paper in (("none", (1, 3, -2), (2, -1, 1)), ("none", (2, -1, 1), (1, 3)), ("none", [2, -1, 1], (1, 3, -2)),
                      ("none", (2, -1, 1), (1, -4, 3)), ("none", (5, 1, 0), (2, -1, 1)), ("none", (7, 0, 1), (5, 1, 0)),
                      ("none", (2, -1, True), (1, 3, -2)), ("none", (2, -1, 1), (0, 7, -5)), ("none", (2, -1, 1)), ("back", 1, 3, 2)):
            self.assertIs(takes_back(7, 5, 1, 2, paper), False, paper)

    def test_spoilt_papers(self):
        self.judges(takes_back, (7, 5, 1, 3), back_paper(7, 5, 1, 3))
        self.judges(takes_back, (7, 5, 1, 2), back_paper(7, 5, 1, 2))
        self.judges(takes_back, (101, 33, 3, 2), back_paper(101, 33, 3, 2))

    def test_wrong_integers(self):
        good = (7, 5, 1, 3)
        edges = ((1, 0, -7), (7, -1, 8), (-1,), (0, -1))
        for at in range(4):
            for value in WRONG + list(edges[at]):
                numbers = good[:at] + (value,) + good[at + 1:]
                self.refused(InvalidNumber, back_paper, *numbers)
                self.refused(InvalidNumber, takes_back, *numbers, None)
        self.refused(InvalidNumber, back_paper, None, None, None, None)

    def test_each_name_is_defined_here(self):
        for name in ("back_paper", "takes_back"):
            self.assertEqual(getattr(backfractions, name).__module__, "towerback.backfractions")


if __name__ == "__main__":
    unittest.main()
