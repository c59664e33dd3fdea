"""Point 60: inverses, powers, orders and roots by a modulus."""

import math
import unittest

from tests.support import GREATEST, Asks, any_values
from towerback import modways
from towerback.errors import InvalidNumber
from towerback.modways import inverse_paper, order_paper, power_of, roots_of, takes_inverse, takes_order
from towerback.primes import factors_paper

WRONG = any_values() + [GREATEST + 1, -GREATEST - 1]


class Modways(Asks, unittest.TestCase):
    def test_inverses(self):
        pairs = [(a, m) for a in range(-20, 21) for m in range(2, 25)]
        pairs += [(GREATEST, 7), (7, GREATEST), (-GREATEST, GREATEST), (GREATEST - 1, GREATEST), (0, GREATEST), (0, 2)]
        for number, modulus in pairs:
            paper = inverse_paper(number, modulus)
            self.assertIs(takes_inverse(number, modulus, paper), True, (number, modulus, paper))
            if math.gcd(number, modulus) == 1:
                self.assertEqual(paper, ("inverse", pow(number, -1, modulus)))
            else:
                word, g, p, q = paper
                self.assertEqual((word, p * g, q * g), ("none", number, modulus))
                self.assertGreater(g, 1)
        self.assertEqual(inverse_paper(1, 2), ("inverse", 1))

    def test_inverses_that_others_may_tell(self):
        self.assertTrue(takes_inverse(12, 18, ("none", 2, 6, 9)))
        self.assertTrue(takes_inverse(12, 18, ("none", 3, 4, 6)))
        self.assertTrue(takes_inverse(0, 5, ("none", 5, 0, 1)))
        for paper in (("none", 1, 12, 18), ("none", -2, -6, -9), ("none", 6, 2, 2), ("inverse", 5), ("none", 2, 6), ("none", 2, 6, 9, 0)):
            self.assertIs(takes_inverse(12, 18, paper), False, paper)
        for paper in (("inverse", 12), ("inverse", -2), ("inverse", 4), ("inverse",), ["inverse", 5], ("inverse", 5, 5)):
            self.assertIs(takes_inverse(3, 7, paper), False, paper)
        self.assertFalse(takes_inverse(1, 2, ("inverse", True)))

    def test_powers(self):
        for number in (-5, -1, 0, 1, 2, 10, GREATEST):
            for power in (0, 1, 2, 7, GREATEST):
                for modulus in (2, 3, 10, 997, GREATEST):
                    self.assertEqual(power_of(number, power, modulus), pow(number, power, modulus))

    def test_orders(self):
        for modulus in list(range(2, 60)) + [9973, 10 ** 4, 2 ** 13]:
            for number in list(range(-3, 12)) + [modulus - 1, modulus, GREATEST - 1]:
                paper = order_paper(number, modulus)
                self.assertIs(takes_order(number, modulus, paper), True)
                if math.gcd(number, modulus) > 1:
                    self.assertEqual(paper[0], "none")
                    continue
                word, exponent, factors = paper
                self.assertEqual((word, factors), ("order", factors_paper(exponent)))
                if modulus < 60:
                    self.assertEqual(exponent, min(k for k in range(1, modulus) if pow(number, k, modulus) == 1))
                else:
                    self.assertEqual(pow(number, exponent, modulus), 1)
        self.assertEqual(order_paper(1, 7), ("order", 1, ()))
        self.assertEqual(order_paper(11, 9973), ("order", 9972, factors_paper(9972)))

    def test_wrong_orders(self):
        self.assertTrue(takes_order(2, 7, ("order", 3, ((3, 1, ()),))))
        self.assertFalse(takes_order(2, 7, ("order", 6, ((2, 1, ()), (3, 1, ())))))
        self.assertFalse(takes_order(2, 7, ("order", 3, ((3, True, ()),))))
        self.assertFalse(takes_order(2, 7, ("order", 3, ())))
        self.assertFalse(takes_order(2, 7, ("order", 9, ((3, 2, ()),))))
        self.assertFalse(takes_order(1, 7, ("order", 0, ())))
        self.assertFalse(takes_order(1, 7, ("order", True, ())))
        self.assertFalse(takes_order(3, 7, ("order", 3, ((3, 1, ()),))))
        self.assertFalse(takes_order(2, 7, ("none", 1, 2, 7)))
        self.assertTrue(takes_order(4, 8, ("none", 2, 2, 4)))
        self.assertFalse(takes_order(4, 8, ("order", 1, ())))

    def test_roots(self):
        self.assertEqual(roots_of(1, 2, 8), (1, 3, 5, 7))
        self.assertEqual(roots_of(-1, 2, 5), (2, 3))
        self.assertEqual(roots_of(3, 2, 7), ())
        self.assertEqual(roots_of(GREATEST, 8, 1000), tuple(range(0, 1000, 10)))
        for modulus in (2, 3, 16, 30, 1000):
            for power in range(1, 9):
                for number in (0, 1, 7, -1):
                    told = tuple(root for root in range(modulus) if (root ** power - number) % modulus == 0)
                    self.assertEqual(roots_of(number, power, modulus), told)

    def test_spoilt_papers(self):
        self.judges(takes_inverse, (3, 7), ("inverse", 5))
        self.judges(takes_inverse, (12, 18), inverse_paper(12, 18))
        self.judges(takes_order, (2, 101), order_paper(2, 101))
        self.judges(takes_order, (3, 7), order_paper(3, 7))
        self.judges(takes_order, (6, 9), order_paper(6, 9))

    def test_wrong_arguments(self):
        for function, behind in ((inverse_paper, ()), (order_paper, ()), (takes_inverse, (None,)), (takes_order, (None,))):
            self.refuses_all(InvalidNumber, function, (), WRONG, (7,) + behind)
            self.refuses_all(InvalidNumber, function, (3,), WRONG + [0, 1, -7], behind)
        for function, behind in ((order_paper, ()), (takes_order, (None,))):
            self.refused(InvalidNumber, function, 3, 10 ** 4 + 1, *behind)
        self.refuses_all(InvalidNumber, power_of, (), WRONG, (1, 7))
        self.refuses_all(InvalidNumber, power_of, (1,), WRONG + [-1], (7,))
        self.refuses_all(InvalidNumber, power_of, (1, 1), WRONG + [1, 0, -2])
        self.refuses_all(InvalidNumber, roots_of, (), WRONG, (1, 7))
        self.refuses_all(InvalidNumber, roots_of, (1,), WRONG + [0, 9, -1], (7,))
        self.refuses_all(InvalidNumber, roots_of, (1, 1), WRONG + [1, 0, 1001])

    def test_each_name_is_defined_here(self):
        for name in "inverse_paper takes_inverse power_of order_paper takes_order roots_of".split():
            self.assertEqual(getattr(modways, name).__module__, "towerback.modways")


if __name__ == "__main__":
    unittest.main()
