"""Points 14, 16 and 78: lines over a prime field split into parts that can not be split."""

import unittest

from tests.support import Asks, all_lines, any_values, chances, monic_lines, unsplit_lines
from tests.test_degreeparts import is_degree_paper
from tests.test_turns import NO_PRIMES, SIXTEEN
from towerback import modfactors
from towerback.errors import InvalidField, InvalidLine, InvalidMonic, NotSquareFree
from towerback.fieldways import is_line
from towerback.lineways import common_line, divided_lines, does_divide, line_times, scaled_line, slope_of
from towerback.modfactors import factors_mod, is_unsplit, parts_of, parts_paper, split_paper, unsplit_paper

WRONG = [value for value in any_values() if not is_line(5, value)] + [(1,) * 18, (1,) * 61, (1, 5), (1, 0), [1, 1]]
NO_MONIC = [(), (1,), (3,), (1, 2), (1, 0, 3)]


def product_of(prime, lines):
    """Return the product of lines over a prime field."""
    product = (1,)
    for line in lines:
        product = line_times(prime, product, line)
    return product


def plain_parts(prime, line, unsplit):
    """Return the ascending tuple of the pairs (part, times) by trying all lines that can't be split."""
    found = []
    for part in unsplit:
        times = 0
        while does_divide(prime, part, line):
            line, times = divided_lines(prime, line, part)[0], times + 1
        if times:
            found.append((part, times))
    return tuple(sorted(found))


class ModFactors(Asks, unittest.TestCase):
    def check(self, prime, line, parts):
        """Ask that a monic line has just these parts, given as pairs (part, times)."""
        self.assertEqual(factors_mod(prime, line), (1, parts))
        number, rows = parts_paper(prime, line)
        self.assertEqual((number, tuple(row[:2] for row in rows)), (1, parts))
        for part, _, paper in rows:
            self.assertTrue(is_degree_paper(prime, part, len(part) - 1, paper))
        if all(times == 1 for _, times in parts):
            self.assertEqual(parts_of(prime, line), tuple(part for part, _ in parts))
        else:
            self.refused(NotSquareFree, parts_of, prime, line)
        unsplit = parts == ((line, 1),)
        self.assertIs(is_unsplit(prime, line), unsplit)
        if unsplit:
            self.assertIsNone(split_paper(prime, line))
            self.assertTrue(is_degree_paper(prime, line, len(line) - 1, unsplit_paper(prime, line)))
        else:
            self.assertIsNone(unsplit_paper(prime, line))
            one, other = split_paper(prime, line)
            self.assertEqual(line_times(prime, one, other), line)
            self.assertEqual((one[-1], other[-1]), (1, 1))
            self.assertGreater(min(len(one), len(other)), 1)

    def test_all_small_lines(self):
        """The parts are those found by trying all monic lines."""
        for prime, most in ((2, 7), (3, 4), (5, 3), (7, 2)):
            unsplit = unsplit_lines(prime, most)
            for degree in range(1, most + 1):
                for line in monic_lines(prime, degree):
                    self.check(prime, line, plain_parts(prime, line, unsplit))

    def test_lines_that_are_not_monic(self):
        unsplit = unsplit_lines(5, 3)
        for line in all_lines(5, 4):
            if line:
                monic = scaled_line(5, line, pow(line[-1], -1, 5))
                parts = plain_parts(5, monic, unsplit)
                self.assertEqual(factors_mod(5, line), (line[-1], parts))
                number, rows = parts_paper(5, line)
                self.assertEqual((number, tuple(row[:2] for row in rows)), (line[-1], parts))
        self.assertEqual(factors_mod(7, (3,)), (3, ()))
        self.assertEqual(parts_paper(9973, (9972,)), (9972, ()))
        self.assertEqual(factors_mod(2, (1,)), (1, ()))

    def test_powers_by_the_prime(self):
        self.check(2, (1,) + (0,) * 15 + (1,), (((1, 1), 16),))
        self.check(2, (0,) * 16 + (1,), (((0, 1), 16),))
        self.check(3, (2,) + (0,) * 8 + (1,), (((2, 1), 9),))
        self.check(2, product_of(2, [(1, 1, 1)] * 8), (((1, 1, 1), 8),))
        self.check(5, product_of(5, [(2, 0, 1)] * 5 + [(1, 1)] * 6), (((1, 1), 6), ((2, 0, 1), 5)))
        self.check(13, product_of(13, [(4, 1)] * 13 + [(2, 0, 1)]), (((2, 0, 1), 1), ((4, 1), 13)))

    def test_products_of_parts(self):
        """Products of parts known not to be split, of degree 16, are split into these."""
        chance = chances(31)
        for prime in (2, 3, 5, 97, 9973):
            known = []
            while len(known) < 12:
                line = tuple(chance.randrange(prime) for _ in range(chance.randint(1, 6))) + (1,)
                if is_unsplit(prime, line):
                    paper = unsplit_paper(prime, line)
                    self.assertTrue(is_degree_paper(prime, line, len(line) - 1, paper))
                    known.append(line)
            for _ in range(12):
                chosen = []
                for part in chance.choices(known, k=12):
                    if sum(len(other) - 1 for other in chosen) + len(part) - 1 <= 16:
                        chosen.append(part)
                self.check(prime, product_of(prime, chosen), tuple((part, chosen.count(part)) for part in sorted(set(chosen))))

    def test_edges(self):
        self.check(2, SIXTEEN, ((((1, 0, 0, 1, 1, 1, 0, 0, 1)), 1), ((1, 1, 1, 0, 1, 0, 1, 1, 1), 1)))
        self.check(17, (16,) + (0,) * 15 + (1,), tuple(((number, 1), 1) for number in range(1, 17)))
        self.check(9973, product_of(9973, [(number, 1) for number in range(9957, 9973)]),
                   tuple(((number, 1), 1) for number in range(9957, 9973)))
        self.check(9973, (5, 1), (((5, 1), 1),))
        self.check(2, (0, 1), (((0, 1), 1),))
        self.assertEqual(unsplit_paper(9973, (5, 1)), ())
        squares = {k * k % 9973 for k in range(9973)}
        number = next(k for k in range(1, 100) if k not in squares)
        self.check(9973, (9973 - number, 0, 1), (((9973 - number, 0, 1), 1),))
        self.check(9973, (9973 - 4, 0, 1), (((2, 1), 1), ((9971, 1), 1)))

    def test_the_product_of_all(self):
        """x to the power p ** n, less x, is the product of all monic lines that can't be split, of degrees that divide n."""
        for prime, power in ((2, 2), (2, 3), (2, 4), (3, 1), (3, 2), (5, 1), (13, 1)):
            line = (0, prime - 1) + (0,) * (prime ** power - 2) + (1,)
            degrees = [degree for degree in range(1, power + 1) if power % degree == 0]
            known = [part for part in unsplit_lines(prime, power) if len(part) - 1 in degrees]
            self.assertEqual(product_of(prime, known), line)
            if len(line) <= 17:
                self.assertEqual(parts_of(prime, line), tuple(sorted(known)))

    def test_square_free(self):
        for prime in (2, 3):
            for line in monic_lines(prime, 4):
                if len(common_line(prime, line, slope_of(prime, line))) > 1:
                    self.refused(NotSquareFree, parts_of, prime, line)

    def test_wrong_arguments(self):
        for function in (parts_of, is_unsplit, unsplit_paper, split_paper, factors_mod, parts_paper):
            for value in any_values() + NO_PRIMES:
                self.refused(InvalidField, function, value, None)
                self.refused(InvalidField, function, value, (1, 1))
            self.refuses_all(InvalidLine, function, (5,), WRONG)
            self.refused(InvalidLine, function, 2, (1, 2))
        for function in (parts_of, is_unsplit, unsplit_paper, split_paper):
            self.refuses_all(InvalidMonic, function, (5,), NO_MONIC)
        self.refused(InvalidLine, factors_mod, 5, ())
        self.refused(InvalidLine, parts_paper, 5, ())
        self.assertIs(is_unsplit(2, SIXTEEN), False)

    def test_each_name_is_defined_here(self):
        for name in "parts_of is_unsplit unsplit_paper split_paper factors_mod parts_paper".split():
            self.assertEqual(getattr(modfactors, name).__module__, "towerback.modfactors")


if __name__ == "__main__":
    unittest.main()
