"""Point 59: primes, factors and divisors."""

import math
import unittest

from tests.support import Asks, any_values
from towerback import primes
from towerback.errors import InvalidNumber
from towerback.primes import divisors_of, factors_paper, is_prime_number, number_paper, primes_below, takes_factors
from towerback.primes import takes_number

MILLION = 10 ** 6
SIEVE = [number for number in range(2, 2000) if all(number % d for d in range(2, math.isqrt(number) + 1))]
SOME = list(range(2, 300)) + [997 * 997, 999983, MILLION, 2 ** 19, 720720, 999999, 510510, 993 * 991]


class Primes(Asks, unittest.TestCase):
    def test_number_papers(self):
        for number in SOME:
            paper = number_paper(number)
            self.assertIs(takes_number(number, paper), True, paper)
            if is_prime_number(number):
                self.assertEqual(paper[0], "prime")
                self.assertEqual(len(paper[1]), max(0, math.isqrt(number) - 1))
                for k, inverse in enumerate(paper[1]):
                    self.assertEqual((k + 2) * inverse % number, 1)
            else:
                word, d, e = paper
                self.assertEqual((word, d * e), ("split", number))
                self.assertTrue(1 < d <= e)
        self.assertEqual([number_paper(2), number_paper(3)], [("prime", ()), ("prime", ())])

    def test_number_papers_that_others_may_tell(self):
        for d, e in ((2, 6), (3, 4)):
            self.assertTrue(takes_number(12, ("split", d, e)))
        for d, e in ((4, 3), (6, 2), (1, 12), (12, 1), (-3, -4), (2, 5), (True, 12)):
            self.assertIs(takes_number(12, ("split", d, e)), False)
        self.assertFalse(takes_number(7, ("split", 1, 7)))
        self.assertFalse(takes_number(7, ("split", True, 7)))
        for paper in (("prime", (11,)), ("prime", (-3,)), ("prime", ()), ("prime", (4, 5)), ("prime", [4]), ("prime", 4), ("prime",),
                      ["prime", (4,)], ("prime", (4.0,)), (4,), ("Prime", (4,)), ("prime", (4,), 1)):
            self.assertIs(takes_number(7, paper), False, paper)
        self.assertFalse(takes_number(9, ("prime", (5, 1))))
        self.assertFalse(takes_number(4, ("prime", (1,))))

    def test_primes(self):
        self.assertEqual([number for number in range(2000) if is_prime_number(number)], SIEVE)
        self.assertEqual([is_prime_number(number) for number in (0, 1, 2, MILLION, 999983, 999981)], [False, False, True, False, True, False])
        for number in (0, 1, 2, 3, 4, 100, 1999):
            self.assertEqual(primes_below(number), [prime for prime in SIEVE if prime < number])
        self.assertEqual(len(primes_below(10 ** 4)), 1229)
        self.assertEqual(primes_below(10 ** 4)[-1], 9973)
        self.assertIs(type(primes_below(2)), list)
        mine = primes_below(10)
        mine.append(0)
        self.assertEqual(primes_below(10), [2, 3, 5, 7])

    def test_factors(self):
        self.assertEqual(factors_paper(1), ())
        self.assertEqual(factors_paper(12), ((2, 2, ()), (3, 1, ())))
        for number in SOME:
            paper = factors_paper(number)
            self.assertIs(takes_factors(number, paper), True)
            self.assertEqual(math.prod(prime ** exponent for prime, exponent, _ in paper), number)
            self.assertEqual([row[0] for row in paper], sorted({row[0] for row in paper}))
            for prime, exponent, inverses in paper:
                self.assertTrue(exponent >= 1 and number_paper(prime) == ("prime", inverses))
        self.assertTrue(takes_factors(1, ()))

    def test_wrong_factors(self):
        for paper in (((3, 1, ()), (2, 2, ())), ((2, 1, ()), (2, 1, ()), (3, 1, ())), ((2, 2, ()),), ((12, 1, (5, 5)),),
                      ((4, 1, (1,)), (3, 1, ())), ((2, True, ()), (6, 1, (3,))), ((2, 2, ()), (3, 1, ()), (5, 0, (3,))),
                      ((2, 2, (1,)), (3, 1, ())), ((2, 10 ** 100, ()), (3, 1, ())), ((2, 2), (3, 1)), ((True, 3, ()), (2, 2, ()), (3, 1, ())),
                      ((1, 3, ()), (2, 2, ()), (3, 1, ())), [(2, 2, ()), (3, 1, ())], ([2, 2, ()], (3, 1, ())), ((-2, 2, ()), (3, 1, ()))):
            self.assertIs(takes_factors(12, paper), False, paper)
        self.assertFalse(takes_factors(1, ((2, 1, ()),)))
        self.assertFalse(takes_factors(1, ((1, 1, ()),)))
        self.assertFalse(takes_factors(3, ((3, True, ()),)))

    def test_divisors(self):
        self.assertEqual(divisors_of(1), (1,))
        for number in SOME:
            divisors = divisors_of(number)
            self.assertIs(type(divisors), tuple)
            if number < 1000:
                self.assertEqual(divisors, tuple(d for d in range(1, number + 1) if number % d == 0))
        self.assertEqual(len(divisors_of(720720)), 240)
        self.assertEqual(divisors_of(997 * 997), (1, 997, 997 * 997))
        self.assertEqual(divisors_of(MILLION)[-1], MILLION)

    def test_spoilt_papers(self):
        self.judges(takes_number, (101,), number_paper(101))
        self.judges(takes_number, (2,), ("prime", ()))
        self.judges(takes_number, (91,), ("split", 7, 13))
        self.judges(takes_factors, (7 ** 2 * 11 * 101,), factors_paper(7 ** 2 * 11 * 101))

    def test_any_value_for_factors_of_1(self):
        for value in any_values():
            self.assertIs(takes_factors(1, value), value == ())

    def test_wrong_integers(self):
        wrong = any_values() + [-1, MILLION + 1, 10 ** 7]
        for least, function, behind in ((2, number_paper, ()), (2, takes_number, (None,)), (1, factors_paper, ()), (1, divisors_of, ()),
                                        (1, takes_factors, (None,)), (0, is_prime_number, ())):
            for value in wrong + list(range(least)):
                self.refused(InvalidNumber, function, value, *behind)
            function(least, *behind)
            function(MILLION, *behind)
        self.refuses_all(InvalidNumber, primes_below, (), wrong + [10 ** 4 + 1])

    def test_each_name_is_defined_here(self):
        for name in "number_paper takes_number is_prime_number primes_below factors_paper takes_factors divisors_of".split():
            self.assertEqual(getattr(primes, name).__module__, "towerback.primes")


if __name__ == "__main__":
    unittest.main()
