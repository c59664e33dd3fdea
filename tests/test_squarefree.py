"""Points 12 and 70: square-free parts."""

import unittest

from tests.support import FIELDS, GREATEST, R, SPLITS, X, Asks, all_lines, any_values, chances, random_line, unsplit_lines
from tests.test_linegcd import ONE, mixed
from towerback import squarefree
from towerback.errors import ByNought, EmptyLine, InvalidLine, UnfitField
from towerback.fieldways import is_line, number_of
from towerback.lineways import common_line, divided_lines, does_divide, line_times, monic_line, powered_line, slope_of
from towerback.squarefree import is_squarefree_paper, power_root, radical_line, squarefree_paper, squarefree_parts



def bottom_of(field):
    """Return the prime, or 0, of which a field is built."""
    return field if isinstance(field, int) else bottom_of(field[1])


FIT = [field for field in FIELDS if isinstance(field, int) or bottom_of(field) == 0]
UNFIT = [("quot", 2), ("quot", ("quot", 5)), ("root", 5, (2, 0, 1)), ("quot", ("root", 5, (2, 0, 1))), ("root", 9973, (1, 1))]


def told_parts(prime, line, unsplit):
    """Return the square-free parts of a line over a small prime field, by trying all lines that can't be split."""
    found = {}
    for part in unsplit:
        times, left = 0, line
        while len(part) <= len(left) and does_divide(prime, part, left):
            times, left = times + 1, divided_lines(prime, left, part)[0]
        if times:
            found[times] = line_times(prime, found.get(times, (1,)), part)
    return tuple((found[times], times) for times in sorted(found))


class SquareFree(Asks, unittest.TestCase):
    def check(self, field, line):
        """Ask that the parts of a line, and their paper, are as told; return the parts."""
        number, parts = squarefree_parts(field, line)
        one = (number_of(field, 1, 1),)
        self.assertEqual(number, line[-1])
        self.assertEqual(sorted({times for _, times in parts}), [times for _, times in parts])
        product, radical = (number,), one
        for at, (part, times) in enumerate(parts):
            self.assertGreater(times, 0)
            self.assertGreater(len(part), 1)
            self.assertEqual(part[-1:], one)
            self.assertEqual(common_line(field, part, slope_of(field, part)), one)
            for other, _ in parts[:at]:
                self.assertEqual(common_line(field, part, other), one)
            for _ in range(times):
                product = line_times(field, product, part)
            radical = line_times(field, radical, part)
        self.assertEqual(product, line)
        self.assertEqual(radical_line(field, line), radical)
        paper = squarefree_paper(field, line)
        self.assertEqual(paper[:2], (number, parts))
        self.assertEqual(mixed(field, paper[2], radical, paper[3], slope_of(field, radical)), one)
        self.assertIs(is_squarefree_paper(field, line, paper), True)
        return parts

    def test_parts_over_all_fields(self):
        for seed, field in enumerate(FIT):
            chance = chances(seed)
            for times in ((1, 1, 2), (2, 3, 3), (1, 4, 5), (6, 2, 1)):
                lines = [random_line(chance, field, 2) for _ in range(2)]
                line = random_line(chance, field, 1) or (number_of(field, 1, 1),)
                for part, many in zip(lines, times):
                    if part:
                        line = line_times(field, line, powered_line(field, part, many if isinstance(field, int) else min(many, 3)))
                self.check(field, line)
            self.assertEqual(self.check(field, (number_of(field, 1, 1),)), ())

    def test_all_small_lines(self):
        for prime, many in ((2, 7), (3, 5), (5, 4)):
            unsplit = unsplit_lines(prime, many - 1)
            for line in all_lines(prime, many)[1:]:
                self.assertEqual(self.check(prime, line), told_parts(prime, line, unsplit))

    def test_powers_by_the_prime(self):
        self.assertEqual(squarefree_parts(2, (1, 0, 1)), (1, (((1, 1), 2),)))
        for prime in (2, 3, 5, 7):
            for times in (1, prime - 1, prime, prime + 1, 2 * prime, prime * prime):
                line = (1,)
                for _ in range(times):
                    line = line_times(prime, line, (1, 1))
                if times:
                    self.assertEqual(self.check(prime, line), (((1, 1), times),))
                    self.assertEqual(self.check(prime, (0,) + line), (((0, 1), 1), ((1, 1), times)) if times > 1 else (((0, 1, 1), 1),))
        self.check(2, (1,) * 61)
        self.check(3, (1,) + (0,) * 59 + (2,))
        self.check(9973, tuple(range(1, 62)))

    def test_power_roots(self):
        for prime, many in ((2, 3), (3, 3), (5, 2)):
            powers = {powered_line(prime, line, prime): line for line in all_lines(prime, many)}
            for line in all_lines(prime, (many - 1) * prime + 1) if prime < 5 else list(powers) + all_lines(5, 4):
                self.assertEqual(power_root(prime, line), powers.get(line))
        self.assertEqual(power_root(5, ()), ())
        self.assertEqual(power_root(5, (3,)), (3,))
        self.assertIsNone(power_root(5, (0, 1)))
        self.assertEqual(power_root(59, (4,) + (0,) * 58 + (7,)), (4, 7))
        self.assertIsNone(power_root(9973, (1, 1)))
        self.assertEqual(power_root(9973, (8,)), (8,))
        for field in FIT:
            if isinstance(field, tuple) or field == 0:
                one = number_of(field, 1, 1)
                for line in ((), (one,), (one, one)):
                    self.assertIsNone(power_root(field, line))

    def test_longer_lines(self):
        chance = chances(7)
        line = ((2, 3),)
        for part, times in ((((1, 1), (2, 1)), 5), (((-1, 3), (0, 1), (1, 1)), 4), (((7, 1), (1, 1)), 10), (((0, 1), (1, 1)), 20)):
            line = line_times(0, line, powered_line(0, part, times))
        parts = self.check(0, line)
        self.assertEqual([times for _, times in parts], [4, 5, 10, 20])
        great = tuple((chance.randint(-GREATEST, GREATEST), 1) for _ in range(17))
        paper = squarefree_paper(0, great)
        self.assertEqual(paper[:2], (great[-1], ((monic_line(0, great), 1),)))
        self.assertIs(is_squarefree_paper(0, great, paper), True)
        small = tuple((chance.randint(-9, 9), chance.randint(1, 9)) for _ in range(4))
        small = tuple(number_of(0, *number) for number in small)
        self.check(0, powered_line(0, small, 5))

    def test_papers_that_others_may_tell(self):
        line, parts = (4, 0, 1), (((4, 0, 1), 1),)
        taken = []
        for first in all_lines(5, 2):
            for second in all_lines(5, 3):
                if is_squarefree_paper(5, line, (1, parts, first, second)):
                    taken.append((first, second))
        told = [(first, second) for first in all_lines(5, 2) for second in all_lines(5, 3) if mixed(5, first, line, second, (0, 2)) == (1,)]
        self.assertEqual(taken, told)
        self.assertGreater(len(taken), 4)
        for paper in ((1, (((1, 1), 1), ((4, 1), 1)), (4,), (0, 3)), (1, (((1, 1), 1),), (4,), (0, 3)), (2, parts, (4,), (0, 3)), (1, (((4, 0, 1), True),), (4,), (0, 3)),
                      (True, parts, (4,), (0, 3)), (1, (((4, 0, 1), 0),), (4,), (0, 3)), (1, parts + (((1,), 2),), (4,), (0, 3)), (1, parts, (4,), (0, 3), ()), (1, (((2, 0, 3), 1),), (4,), (0, 3)),
                      (1, (((4, False, 1), 1),), (4,), (0, 3)), (1, parts, (4, 0), (0, 3)), (1, [((4, 0, 1), 1)], (4,), (0, 3)), (0, parts, (4,), (0, 3))):
            self.assertIs(is_squarefree_paper(5, line, paper), False)
        square = line_times(5, line, line)
        self.assertIs(is_squarefree_paper(5, square, (1, ((square, 1),), (4,), (0, 3))), False)
        self.assertIs(is_squarefree_paper(5, square, (1, ((line, 2),), (4,), (0, 3))), True)
        both = line_times(5, (1, 1), powered_line(5, (2, 1), 2))
        good = squarefree_paper(5, both)
        self.assertEqual(good[1], (((1, 1), 1), ((2, 1), 2)))
        self.assertIs(is_squarefree_paper(5, both, (1, (((2, 1), 2), ((1, 1), 1))) + good[2:]), False)
        self.assertIs(is_squarefree_paper(5, both, (1, (((1, 1), 1), ((2, 1), 1), ((2, 1), 1))) + good[2:]), False)
        self.assertIs(is_squarefree_paper(5, (3,), (3, (), (1,), (1, 2, 3))), True)
        self.assertIs(is_squarefree_paper(5, (3,), (3, (), (2,), ())), False)
        great, line = 10 ** 119, ((-1, 1), (0, 1), (1, 1))
        first, second = ((-1, 1), (2 * great, 1)), ((great, 1), (1, 2), (-great, 1))
        self.assertIs(is_squarefree_paper(0, line, ((1, 1), ((line, 1),), first, second)), True)
        self.assertIs(is_squarefree_paper(0, line, ((1, 1), ((line, 1),), first, second[:2] + ((great, 1),))), False)

    def test_spoilt_papers(self):
        x = ((0, 1), (1, 1))
        for field, line in ((5, (1, 2, 0, 3, 1)), (5, (0, 0, 3, 3)), (0, ((-1, 2), (2, 1), (0, 1), (3, 2))), (2, (1, 0, 1, 1, 0, 1)), (X, ((ONE, x), (ONE, ONE), (ONE, ONE))), (R, (x, (), ONE)), (7, (3,))):
            paper = squarefree_paper(field, line)
            if len(line) == 1:
                # The derivative is nought there, and its line any.
                self.judges(is_squarefree_paper, (field, line), paper, False)
            else:
                self.judges(is_squarefree_paper, (field, line), paper)

    def test_roots_of_a_line_that_can_be_split(self):
        for seed, field in enumerate(SPLITS[:2] + SPLITS[-1:]):
            chance, told = chances(seed), 0
            for _ in range(12):
                one, other = random_line(chance, field, 2), random_line(chance, field, 2)
                line = line_times(field, one, line_times(field, other, other))
                if not line:
                    continue
                for value in any_values():
                    try:
                        self.assertIs(is_squarefree_paper(field, line, value), False)
                    except ByNought:
                        pass
                try:
                    number, parts = squarefree_parts(field, line)
                    product = (number,)
                    for part, times in parts:
                        product = line_times(field, product, powered_line(field, part, times))
                    self.assertEqual(product, line)
                    self.assertIs(is_squarefree_paper(field, line, squarefree_paper(field, line)), True)
                    told += 1
                except ByNought:
                    pass
            self.assertGreater(told, 2)
        for field in SPLITS[2:5]:
            self.refused(UnfitField, squarefree_parts, field, None)

    def test_unfit_fields(self):
        for field in UNFIT:
            for function in (power_root, squarefree_parts, radical_line, squarefree_paper):
                self.refuses_all(UnfitField, function, (field,), any_values() + [(), (number_of(field, 1, 1),)])
            self.refuses_all(UnfitField, is_squarefree_paper, (field,), any_values() + [(), (number_of(field, 1, 1),)], (None,))

    def test_wrong_arguments(self):
        for field in (0, 5, X, R):
            wrong = [value for value in any_values() if not is_line(field, value)]
            for function in (power_root, squarefree_parts, radical_line, squarefree_paper):
                self.refuses_all(InvalidLine, function, (field,), wrong)
                if function is not power_root:
                    self.refused(EmptyLine, function, field, ())
            self.refuses_all(InvalidLine, is_squarefree_paper, (field,), wrong, (None,))
            self.refused(EmptyLine, is_squarefree_paper, field, (), None)
        self.refused(InvalidLine, squarefree_parts, 2, (1,) * 62)
        for function in (power_root, squarefree_parts, radical_line, squarefree_paper):
            self.refuses_fields(function, None)
        self.refuses_fields(is_squarefree_paper, None, None)

    def test_each_name_is_defined_here(self):
        for name in "power_root squarefree_parts radical_line squarefree_paper is_squarefree_paper".split():
            self.assertEqual(getattr(squarefree, name).__module__, "towerback.squarefree")


if __name__ == "__main__":
    unittest.main()
