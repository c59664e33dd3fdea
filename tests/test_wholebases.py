"""Points 50 and 118: whole combinations and whole bases."""

import itertools
import math
import unittest
from fractions import Fraction

from tests.support import GREATEST, X, Asks, any_values, chances
from tests.test_makers import EXP_NOT_LET, NOT_NUMBERS
from tests.test_severals import least_multiple
from tests.test_towers import U, rational
from towerback import wholebases
from towerback.errors import InvalidMaker
from towerback.fieldways import inverse_of, is_number, number_of, number_plus, number_times
from towerback.wholebases import whole_basis

NOUGHT = rational()
KH = (((0, 1), (1, 2)), ((1, 1),))


def times(number, many):
    """Return a rational function so many times, by a fraction."""
    return number_times(X, number_of(X, *many), number)


def combined(row, numbers):
    """Return the sum of rational functions, each times an integer."""
    total = NOUGHT
    for many, number in zip(row, numbers):
        total = number_plus(X, total, times(number, (many, 1)))
    return total


def lines_over(under, numbers):
    """Return rational functions as lists of fractions over a line."""
    return [[Fraction(*part) for part in number_times(X, (under, ((1, 1),)), number)[0]] for number in numbers]


def determinant(rows):
    """Return the determinant of integers."""
    if not rows:
        return 1
    return sum((-1) ** at * number * determinant([row[:at] + row[at + 1:] for row in rows[1:]]) for at, number in enumerate(rows[0]) if number)


class WholeBases(Asks, unittest.TestCase):
    def check(self, numbers):
        """Return the whole basis of some functions, having asked that it is one, by the words of the document."""
        basis, rows = whole_basis(numbers)
        self.assertEqual((type(basis), type(rows), len(rows)), (tuple, tuple, len(numbers)))
        for row, number in zip(rows, numbers):
            self.assertTrue(type(row) is tuple and len(row) == len(basis) and all(type(many) is int for many in row))
            if all(is_number(X, part) for part in basis) and all(abs(many) <= GREATEST for many in row):
                self.assertEqual(combined(row, basis), number)
        # Each of the basis is a whole combination of the functions: the rows have no common divisor of their minors.
        common = 0
        for some in itertools.combinations(rows, len(basis)):
            common = math.gcd(common, determinant(list(some)))
        self.assertEqual(common, 1)
        lines = lines_over(least_multiple([number[1] for number in numbers]), basis)
        for line, behind in zip(lines, lines[1:]):
            self.assertGreater(len(line), len(behind))
        for at, line in enumerate(lines):
            self.assertGreater(line[-1], 0)
            for behind in lines[at + 1:]:
                self.assertTrue(0 <= line[len(behind) - 1] < behind[-1])
        return basis, rows

    def test_bases(self):
        chance = chances(118)
        parts = [U, rational(0, 0, 1), inverse_of(X, U), inverse_of(X, rational(1, 0, 1)), inverse_of(X, rational(1, 2, 1))]
        sizes = set()
        for _ in range(120):
            numbers = []
            for _ in range(chance.randint(1, 6)):
                number = NOUGHT
                for part in chance.sample(parts, chance.randint(0, 3)):
                    number = number_plus(X, number, times(part, (chance.randint(-6, 6), chance.randint(1, 4))))
                numbers.append(number)
            basis, _ = self.check(tuple(numbers))
            sizes.add(len(basis))
            # It is the only one: the same combinations, in another order or told otherwise, have the same.
            chance.shuffle(numbers)
            more = (number_plus(X, numbers[0], times(numbers[-1], (7, 1))),) + tuple(numbers[1:]) if len(numbers) > 1 else tuple(numbers)
            self.assertEqual(whole_basis(more)[0], basis)
        self.assertEqual(sizes, {0, 1, 2, 3, 4, 5})

    def test_known_bases(self):
        self.assertEqual(whole_basis((U, KH)), ((KH,), ((2,), (1,))))
        self.assertEqual(whole_basis(()), ((), ()))
        self.assertEqual(whole_basis((NOUGHT,)), ((), ((),)))
        self.assertEqual(whole_basis((NOUGHT, U, NOUGHT)), ((U,), ((0,), (1,), (0,))))
        self.assertEqual(whole_basis((U, U)), ((U,), ((1,), (1,))))
        self.assertEqual(whole_basis((rational(0, -1),)), ((U,), ((-1,),)))
        self.assertEqual(whole_basis((rational(0, 4), rational(0, 6))), ((rational(0, 2),), ((2,), (3,))))
        self.assertEqual(whole_basis((rational(0, 0, 2), rational(0, 1, 2))), ((rational(0, 0, 2), U), ((1, 0), (1, 1))))
        self.assertEqual(whole_basis((rational(0, 5, 2), rational(0, 3))), ((rational(0, 2, 2), rational(0, 3)), ((1, 1), (0, 1))))
        self.assertEqual(whole_basis((rational(0, -1, 2), rational(0, 3))), ((rational(0, 2, 2), rational(0, 3)), ((1, -1), (0, 1))))
        # Over the under of all of them: one by x, and x.
        both = number_plus(X, U, inverse_of(X, U))
        self.assertEqual(whole_basis((both, U)), ((U, inverse_of(X, U)), ((1, 1), (1, 0))))
        half = times(U, (1, 3))
        self.assertEqual(whole_basis((times(U, (1, 2)), half)), ((times(U, (1, 6)),), ((3,), (2,))))
        six = tuple(rational(*[0] * at, 1) for at in range(1, 7))
        self.assertEqual(whole_basis(six)[0], tuple(reversed(six)))
        self.check(six)

    def test_great_functions(self):
        great = rational(0, GREATEST, GREATEST - 1)
        self.check((great, U, rational(0, 0, 3)))
        self.check((rational(0, GREATEST - 1), rational(0, GREATEST - 3)))
        self.assertEqual(whole_basis((rational(0, GREATEST), rational(0, GREATEST - 1)))[0], (U,))
        long = (((0, 1),) * 60 + ((2, 3),), ((1, 1),))
        self.check((long, inverse_of(X, (((1, 1),) * 61, ((1, 1),))), U))

    def test_wrong_arguments(self):
        values = [value for value in any_values() if value != ()] + [[U], U, (U,) * 7, (U, None)]
        self.refuses_all(InvalidMaker, whole_basis, (), values)
        for value in NOT_NUMBERS + EXP_NOT_LET:
            self.refused(InvalidMaker, whole_basis, (value,))
            self.refused(InvalidMaker, whole_basis, (U, value))
        self.assertEqual(whole_basis((U,) * 6)[0], (U,))

    def test_each_name_is_defined_here(self):
        self.assertEqual(wholebases.whole_basis.__module__, "towerback.wholebases")


if __name__ == "__main__":
    unittest.main()
