"""Points 17 and 76: kept lines."""

import itertools
import unittest

from tests.support import Asks, all_lines, any_values, chances, monic_lines, unsplit_lines
from tests.test_turns import NO_PRIMES, SIXTEEN
from towerback import keptlines
from towerback.errors import InvalidField, InvalidLine, InvalidMonic
from towerback.fieldways import is_line
from towerback.keptlines import is_kept, kept_lines, told_apart
from towerback.lineways import common_line, does_divide, line_minus, line_plus, line_times, rest_of_power, scaled_line


def place_of(line):
    """Return the index of the first number that is not 0."""
    return next(at for at, number in enumerate(line) if number)


def plain_apart(prime, line, kept):
    """Return the pairs (number, common divisor) by trying all numbers."""
    found = [(number, common_line(prime, line, line_minus(prime, kept, (number,) if number else ()))) for number in range(prime)]
    return [pair for pair in found if len(pair[1]) > 1]


class KeptLines(Asks, unittest.TestCase):
    def check(self, prime, line):
        """Ask that the basis of the kept lines is as told; return it."""
        basis = kept_lines(prime, line)
        self.assertIs(type(basis), tuple)
        places = [place_of(kept) for kept in basis]
        self.assertEqual(places, sorted(set(places)))
        for kept in basis:
            self.assertIs(is_kept(prime, line, kept), True)
            self.assertEqual([(kept + (0,) * 16)[at] for at in places], [int(at == place_of(kept)) for at in places])
        self.assertEqual(basis[0], (1,))
        return basis

    def test_all_small_lines(self):
        """The kept lines are those found by trying all lines, and are the sums of the basis."""
        for prime, degree in ((2, 1), (2, 2), (2, 3), (2, 4), (3, 1), (3, 2), (3, 3), (5, 2)):
            unsplit = unsplit_lines(prime, degree)
            for line in monic_lines(prime, degree):
                basis = self.check(prime, line)
                told = [kept for kept in all_lines(prime, degree) if rest_of_power(prime, kept, prime, line) == kept]
                self.assertEqual([kept for kept in all_lines(prime, degree + 1) if is_kept(prime, line, kept)], told)
                sums = set()
                for numbers in itertools.product(range(prime), repeat=len(basis)):
                    total = ()
                    for number, kept in zip(numbers, basis):
                        total = line_plus(prime, total, scaled_line(prime, kept, number))
                    sums.add(total)
                self.assertEqual(sums, set(told))
                parts = [part for part in unsplit if does_divide(prime, part, line)]
                self.assertEqual(len(basis), len(parts))
                for kept in told:
                    self.assertEqual(told_apart(prime, line, kept), plain_apart(prime, line, kept))

    def test_products_of_parts(self):
        chance = chances(2)
        for prime in (2, 7, 101, 9973):
            line, parts = (1,), 0
            for number in chance.sample(range(prime), min(prime, 6)):
                line, parts = line_times(prime, line, (number, 1)), parts + 1
            basis = self.check(prime, line)
            self.assertEqual(len(basis), parts)
            for kept in basis + (line_plus(prime, basis[0], scaled_line(prime, basis[-1], prime - 1)),):
                found = told_apart(prime, line, kept)
                product = (1,)
                for number, divisor in found:
                    product = line_times(prime, product, divisor)
                    self.assertEqual(divisor, common_line(prime, line, line_minus(prime, kept, (number,) if number else ())))
                self.assertEqual(product, line)
                self.assertEqual([number for number, _ in found], sorted(number for number, _ in found))
                if prime < 200:
                    self.assertEqual(found, plain_apart(prime, line, kept))
            self.assertGreater(max(len(told_apart(prime, line, kept)) for kept in basis), 1)

    def test_degree_sixteen(self):
        self.assertEqual(len(self.check(17, (16,) + (0,) * 15 + (1,))), 16)
        self.assertEqual(told_apart(17, (16,) + (0,) * 15 + (1,), (0, 1)), [(k, (17 - k, 1)) for k in range(1, 17)])
        self.assertEqual(len(self.check(2, (1,) + (0,) * 15 + (1,))), 1)
        self.assertEqual(len(self.check(2, SIXTEEN)), 2)
        self.assertEqual(kept_lines(9973, (5, 1)), ((1,),))
        self.check(9973, tuple(range(1, 17)) + (1,))

    def test_numbers_alone(self):
        for prime, line in ((2, (1, 1, 1)), (5, (1, 0, 1)), (5, (3, 1)), (3, (0, 0, 1))):
            self.assertIs(is_kept(prime, line, ()), True)
            self.assertEqual(told_apart(prime, line, ()), [(0, line)])
            for number in range(1, prime):
                self.assertIs(is_kept(prime, line, (number,)), True)
                self.assertEqual(told_apart(prime, line, (number,)), [(number, line)])

    def test_any_values_that_are_not_kept(self):
        for value in any_values() + [(1, 0), (True,), [1], (5,), (0, 1, 0), (1, 0, 1), (0, 1, 1), (6, 1)]:
            self.assertIs(is_kept(5, (1, 0, 1), value), value == ())
        self.assertIs(is_kept(5, (1, 0, 1), (2, 3)), True)
        self.assertIs(is_kept(3, (1, 0, 1), (0, 1)), False)
        self.assertIs(is_kept(5, (3, 1), (0, 1)), False)
        found = told_apart(5, (1, 0, 1), (0, 1))
        self.assertEqual(found, [(2, (3, 1)), (3, (2, 1))])
        found.clear()
        self.assertEqual(len(told_apart(5, (1, 0, 1), (0, 1))), 2)

    def test_wrong_arguments(self):
        for value in any_values() + NO_PRIMES:
            self.refused(InvalidField, kept_lines, value, None)
            self.refused(InvalidField, is_kept, value, None, None)
            self.refused(InvalidField, told_apart, value, (1, 1), (1,))
        wrong = [value for value in any_values() if not is_line(5, value)] + [(1,) * 18, (1,) * 61, (1, 5), (1, 0), [1, 1]]
        no_monic = [(), (1,), (3,), (1, 2), (1, 0, 3)]
        self.refuses_all(InvalidLine, kept_lines, (5,), wrong)
        self.refuses_all(InvalidMonic, kept_lines, (5,), no_monic)
        for function in (is_kept, told_apart):
            self.refuses_all(InvalidLine, function, (5,), wrong, (None,))
            self.refuses_all(InvalidMonic, function, (5,), no_monic, (None,))
        values = [value for value in any_values() if value != ()]
        self.refuses_all(InvalidLine, told_apart, (5, (1, 0, 1)), values + [(1, 0, 1), (0, 1, 1), (5,), [1], (True,)])
        self.refuses_all(InvalidLine, told_apart, (3, (1, 0, 1)), [(0, 1), (1, 1)])

    def test_each_name_is_defined_here(self):
        for name in "is_kept kept_lines told_apart".split():
            self.assertEqual(getattr(keptlines, name).__module__, "towerback.keptlines")


if __name__ == "__main__":
    unittest.main()
