"""Points 10, 66 and 67: Euclid's way with lines."""

import unittest

from tests.reference import Lines as PlainLines
from tests.reference import field_for
from tests.support import FIELDS, GREATEST, R, SPLITS, X, Asks, all_lines, any_values, chances, random_line
from towerback import linegcd
from towerback.errors import ByNought, InvalidBase, InvalidLine
from towerback.fieldways import is_line, number_of
from towerback.linegcd import common_paper, euclid_rows, inverse_line, is_common_paper, least_multiple, solved_pair
from towerback.lineways import common_line, divided_lines, does_divide, line_minus, line_plus, line_times, monic_line

ONE = ((1, 1),)
TWO_LINES = (euclid_rows, common_paper, least_multiple)


def plain_rows(field, one, other):
    """Return the rows of Euclid's way by plain arithmetic."""
    lines = PlainLines(field_for(field))
    unit = (lines.field.one,)
    rows = [scaled(lines, (lines.read(one), unit, ())), scaled(lines, (lines.read(other), (), unit))]
    while rows[-1][0]:
        quotient = lines.divided(rows[-2][0], rows[-1][0])[0]
        less = [lines.add(a, lines.negative(lines.times(quotient, b))) for a, b in zip(rows[-2], rows[-1])]
        rows.append(scaled(lines, tuple(less)))
    return [tuple(lines.told(line) for line in row) for row in rows]


def scaled(lines, row):
    """Return a row multiplied by the inverse of its rest's last number."""
    if not row[0]:
        return row
    by = lines.field.inverse(row[0][-1])
    return tuple(lines.scaled(line, by) for line in row)


def mixed(field, first, one, second, other):
    """Return first one + second other by plain arithmetic."""
    lines = PlainLines(field_for(field))
    return lines.told(lines.add(lines.times(lines.read(first), lines.read(one)), lines.times(lines.read(second), lines.read(other))))


def pairs_of_lines(chance, field, most=3):
    """Return pairs of lines, with and without a common divisor, with noughts and lines of one number."""
    one, other, more = (random_line(chance, field, k) for k in (most + 1, most, 2))
    number = random_line(chance, field, 1) or (number_of(field, 1, 1),)
    found = [(one, other), (other, one), (one, one), (one, ()), ((), other), ((), ()), (one, number), (number, other), (number, number)]
    found += [(line_times(field, one, more), line_times(field, other, more)), (line_times(field, one, other), other)]
    return found + [(other, line_times(field, one, other)), (number, ()), ((), number)]


class CommonLines(Asks, unittest.TestCase):
    def test_rows_are_those_of_plain_arithmetic(self):
        for seed, field in enumerate(FIELDS):
            for one, other in pairs_of_lines(chances(seed), field, 4 if isinstance(field, int) else 2):
                self.assertEqual(euclid_rows(field, one, other), plain_rows(field, one, other), (field, one, other))
        self.assertEqual(euclid_rows(7, (), (3,)), [((), (1,), ()), ((1,), (), (5,)), ((), (1,), ())])
        self.assertEqual(euclid_rows(7, (), ()), [((), (1,), ()), ((), (), (1,))])
        self.assertEqual(euclid_rows(7, (3,), ()), [((1,), (5,), ()), ((), (), (1,))])
        self.assertEqual(euclid_rows(7, (3,), (2,)), [((1,), (5,), ()), ((1,), (), (4,)), ((), (5,), (3,))])
        self.assertEqual(euclid_rows(7, (0, 1), (0, 0, 1)), plain_rows(7, (0, 1), (0, 0, 1)))
        for one in all_lines(3, 3):
            for other in all_lines(3, 3):
                self.assertEqual(euclid_rows(3, one, other), plain_rows(3, one, other))

    def test_rows_of_longer_lines(self):
        chance = chances(4)
        for field, many in ((0, 9), (2, 30), (5, 20), (9973, 61), (R, 4)):
            one, other = random_line(chance, field, many), random_line(chance, field, many)
            self.assertEqual(euclid_rows(field, one, other), plain_rows(field, one, other))
        gaps = ((1,) + (0,) * 7 + (1,), (1, 0, 0, 0, 3))
        self.assertEqual(euclid_rows(5, *gaps), plain_rows(5, *gaps))
        self.assertEqual(euclid_rows(5, gaps[1], gaps[0]), plain_rows(5, gaps[1], gaps[0]))

    def test_returned_lists_are_new(self):
        rows = euclid_rows(5, (1, 1), (2, 1))
        rows.clear()
        self.assertEqual(len(euclid_rows(5, (1, 1), (2, 1))), 4)
        self.assertIs(type(rows), list)

    def check_common(self, field, one, other):
        """Ask that a paper of the common divisor is as told."""
        paper = common_paper(field, one, other)
        self.assertIs(is_common_paper(field, one, other, paper), True)
        common, first, second, above, beside = paper
        self.assertEqual(common, common_line(field, one, other))
        self.assertEqual(mixed(field, first, one, second, other), common)
        self.assertEqual((mixed(field, above, common, (), ()), mixed(field, beside, common, (), ())), (one, other))
        if one == () == other:
            self.assertEqual(paper, ((),) * 5)
        elif not other:
            self.assertEqual((len(first), second), (1, ()))
        else:
            # The times are determined but for multiples of the other line by the divisor.
            self.assertLess(len(first), len(beside))
        return paper

    def test_common_papers(self):
        for seed, field in enumerate(FIELDS):
            for one, other in pairs_of_lines(chances(seed), field, 4 if isinstance(field, int) else 2):
                self.check_common(field, one, other)
        chance = chances(5)
        for field, many in ((0, 25), (2, 61), (9973, 61), (R, 6), (X, 5)):
            self.check_common(field, random_line(chance, field, many), random_line(chance, field, many))
        great = tuple((chance.randint(-GREATEST, GREATEST), 1) for _ in range(8))
        self.check_common(0, great, great[1:])

    def test_all_small_lines(self):
        """What is told is what is found by trying all lines."""
        for prime, many in ((2, 4), (3, 3)):
            lines = all_lines(prime, many)
            for one in lines:
                for other in lines:
                    common, first, second, _, _ = self.check_common(prime, one, other)
                    divisors = [line for line in lines if line and line[-1] == 1 and does_divide(prime, line, one) and does_divide(prime, line, other)]
                    if one or other:
                        self.assertEqual(len(common), max(map(len, divisors)))
                        self.assertIn(common, divisors)
                        self.assertEqual((first, second), self.least_pair(prime, one, other, common))

    def least_pair(self, prime, one, other, wished):
        """Return the first pair, u as short as can be, and then v, that comes to a line, or None."""
        for first in all_lines(prime, 3):
            left = line_minus(prime, wished, line_times(prime, first, one))
            if not other:
                if not left:
                    return first, ()
            else:
                quotient, rest = divided_lines(prime, left, other)
                if not rest:
                    return first, quotient
        return None

    def test_solved_pairs_of_all_small_lines(self):
        for prime, many in ((2, 3), (3, 2)):
            lines = all_lines(prime, many)
            for one in lines:
                for other in lines:
                    for wished in lines:
                        self.assertEqual(solved_pair(prime, one, other, wished), self.least_pair(prime, one, other, wished))

    def test_solved_pairs(self):
        for seed, field in enumerate(FIELDS):
            chance = chances(seed)
            for one, other in pairs_of_lines(chance, field, 2):
                first, second = random_line(chance, field, 2), random_line(chance, field, 3)
                wished = line_plus(field, line_times(field, one, first), line_times(field, other, second))
                pair = solved_pair(field, one, other, wished)
                self.assertEqual(mixed(field, pair[0], one, pair[1], other), wished)
                common = common_line(field, one, other)
                if other:
                    self.assertLess(len(pair[0]), len(other) - len(common) + 1)
                else:
                    self.assertEqual(pair[1], ())
                if len(common) != 1:
                    self.assertIsNone(solved_pair(field, one, other, line_plus(field, wished, (number_of(field, 1, 1),))))
        self.assertEqual(solved_pair(5, (), (), ()), ((), ()))
        self.assertIsNone(solved_pair(5, (), (), (1,)))
        self.assertEqual(solved_pair(5, (2,), (), (1, 1)), ((3, 3), ()))
        self.assertEqual(solved_pair(5, (), (2,), (1, 1)), ((), (3, 3)))
        self.assertEqual(solved_pair(5, (2,), (2,), (1, 1)), ((), (3, 3)))
        self.assertEqual(solved_pair(5, (2,), (0, 1), (4, 1)), ((2,), (1,)))
        self.assertEqual(solved_pair(5, (4, 0, 1), (1, 2, 1), (2, 2)), ((4,), (1,)))

    def test_inverses(self):
        for seed, field in enumerate(FIELDS):
            chance = chances(seed)
            one = (number_of(field, 1, 1),)
            for one_line, other in pairs_of_lines(chance, field, 2):
                if len(other) < 2:
                    self.refused(InvalidBase, inverse_line, field, one_line, other)
                    continue
                inverse = inverse_line(field, one_line, other)
                if inverse is None:
                    self.assertGreater(len(common_line(field, one_line, other)), 1)
                else:
                    self.assertLess(len(inverse), len(other))
                    self.assertEqual(divided_lines(field, line_times(field, inverse, one_line), other)[1], one)
        for prime in (2, 3):
            for modulus in all_lines(prime, 3):
                for line in all_lines(prime, 3) if len(modulus) > 1 else ():
                    found = [part for part in all_lines(prime, len(modulus) - 1) if divided_lines(prime, line_times(prime, part, line), modulus)[1] == (1,)]
                    self.assertEqual(inverse_line(prime, line, modulus), found[0] if found else None)
        self.assertEqual(inverse_line(5, (0, 1), (1, 0, 1)), (0, 4))
        self.assertIsNone(inverse_line(5, (), (1, 1)))
        self.assertEqual(inverse_line(5, (1, 1), (2, 2, 0, 3)), inverse_line(5, (1, 1), (4, 4, 0, 1)))

    def test_least_multiples(self):
        for seed, field in enumerate(FIELDS):
            for one, other in pairs_of_lines(chances(seed), field, 2):
                least, above, beside = least_multiple(field, one, other)
                if not one or not other:
                    self.assertEqual((least, above, beside), ((), (), ()))
                    continue
                self.assertEqual(least[-1], number_of(field, 1, 1))
                self.assertEqual((mixed(field, above, one, (), ()), mixed(field, beside, other, (), ())), (least, least))
                self.assertEqual(len(least), len(one) + len(other) - len(common_line(field, one, other)))
        for one in all_lines(2, 3)[1:]:
            for other in all_lines(2, 3)[1:]:
                found = [line for line in all_lines(2, 5)[1:] if does_divide(2, one, line) and does_divide(2, other, line)]
                self.assertEqual(least_multiple(2, one, other)[0], found[0])
        self.assertEqual(least_multiple(5, (4, 0, 1), (1, 2, 1)), ((4, 4, 1, 1), (1, 1), (4, 1)))

    def test_papers_that_others_may_tell(self):
        one, other = (4, 0, 1), (1, 2, 1)
        for more in all_lines(5, 3):
            first = line_plus(5, (2,), line_times(5, more, (1, 1)))
            second = line_minus(5, (3,), line_times(5, more, (4, 1)))
            self.assertIs(is_common_paper(5, one, other, ((1, 1), first, second, (4, 1), (1, 1))), True)
            if more:
                self.assertIs(is_common_paper(5, one, other, ((1, 1), first, (3,), (4, 1), (1, 1))), False)
        for paper in (((2, 2), (4,), (1,), (2, 3), (3, 3)), ((1,), (), (), (4, 0, 1), (1, 2, 1)), ((1, 1), (2,), (3,), (4, 1)), ((1, 1), (2,), (3,), (4, 1), (1, 1), ()),
                      ((1, 1), (2,), (3,), (4, True), (1, 1)), ((True, 1), (2,), (3,), (4, 1), (1, 1)), [(1, 1), (2,), (3,), (4, 1), (1, 1)],
                      ((1, 1, 0), (2,), (3,), (4, 1), (1, 1)), ((), (), (), (), ())):
            self.assertIs(is_common_paper(5, one, other, paper), False)
        self.assertIs(is_common_paper(5, (), (), ((), (1, 2), (3,), (4, 1), (1, 1))), True)
        self.assertIs(is_common_paper(5, (), (), ((1,), (), (), (), ())), False)
        self.assertIs(is_common_paper(5, (), (2,), ((1,), (1, 2, 3), (3,), (), (2,))), True)
        self.assertIs(is_common_paper(5, (), (2,), ((2,), (1, 2, 3), (1,), (), (1,))), False)
        great = 10 ** 119
        line, far = ((-1, 1), (1, 1)), ((1, 1), (1, 1))
        first, second = line_plus(0, ((-1, 2),), line_times(0, far, ((GREATEST, 1),))), line_minus(0, ((1, 2),), line_times(0, line, ((GREATEST, 1),)))
        self.assertIs(is_common_paper(0, line, far, (ONE, first, second, line, far)), True)
        self.assertIs(is_common_paper(0, line, far, (ONE, ((-1 - 2 * great, 2), (-great, 1)), ((1 - 2 * great, 2), (great, 1)), line, far)), True)
        self.assertIs(is_common_paper(0, line, far, (ONE, ((-1 - 2 * great, 2), (-great, 1)), ((1 + 2 * great, 2), (great, 1)), line, far)), False)
        shift = ((0, 1),) * 990 + ((1, 1),)
        first, second = ((-1, 2),) + shift[1:] + ((1, 1),), ((1, 2),) + shift[1:-1] + ((1, 1), (-1, 1))
        self.assertIs(is_common_paper(0, line, far, (ONE, first, second, line, far)), True)
        self.assertIs(is_common_paper(0, line, far, (ONE, first, second[:-1] + ((1, 1),), line, far)), False)

    def test_papers_that_numbers_in_the_unknowns_place_do_not_refuse(self):
        """What holds mod the prime by which papers are first looked at, but not in fact."""
        great = 2 ** 61 - 1
        one, other = ((great + 1, 1), (1, 1)), ((1, 1), (1, 1))
        self.assertIs(is_common_paper(0, one, other, (other, ONE, (), other, ONE)), False)
        self.assertIs(is_common_paper(0, other, other, (other, ONE, ((great, 1),), ONE, ONE)), False)
        self.assertIs(is_common_paper(0, other, other, (other, ((1, great),), ((great - 1, great),), ONE, ONE)), True)
        self.assertIs(is_common_paper(0, other, other, (other, ((1, great),), ((1, great),), ONE, ONE)), False)
        x = (((0, 1), (1, 1)), ONE)
        self.check_common(X, ((((great, 1),), ONE), x), (x, ((), ONE), ((ONE, ((1, great), (1, 1))))))

    def test_spoilt_papers(self):
        self.judges(is_common_paper, (5, (4, 0, 1), (1, 2, 1)), common_paper(5, (4, 0, 1), (1, 2, 1)))
        line, other = ((1, 2), (2, 3), (1, 1)), ((1, 1), (-3, 2))
        self.judges(is_common_paper, (0, line, other), common_paper(0, line, other))
        line, other = ((ONE, ((0, 1), (1, 1))), (ONE, ONE)), ((((0, 1), (1, 1)), ONE),)
        self.judges(is_common_paper, (X, line, other), common_paper(X, line, other))
        line, other = (((0, 1), (1, 1)), ONE), (ONE, (), ONE)
        self.judges(is_common_paper, (R, line, other), common_paper(R, line, other))

    def test_roots_of_a_line_that_can_be_split(self):
        for seed, field in enumerate(SPLITS):
            chance, told = chances(seed), 0
            for _ in range(4):
                for one, other in pairs_of_lines(chance, field, 2):
                    told += self.check_split(field, one, other, random_line(chance, field, 2))
            self.assertGreater(told, 20)

    def check_split(self, field, one, other, wished):
        """Ask that what is told is right, or ByNought raised; return how often something is told."""
        told = 0
        try:
            paper = common_paper(field, one, other)
            self.assertTrue(is_common_paper(field, one, other, paper))
            told += 1
        except ByNought:
            pass
        try:
            rows = euclid_rows(field, one, other)
            self.assertEqual(rows[-1][0] if other else rows[1][0], ())
            for rest, first, second in rows:
                if rows[-1] != (rest, first, second) and rest:
                    self.assertEqual(rest[-1], number_of(field, 1, 1))
            for before, row, behind in zip(rows, rows[1:], rows[2:]):
                less = tuple(line_minus(field, a, line_times(field, divided_lines(field, before[0], row[0])[0], b)) for a, b in zip(before, row))
                by = less[0][-1:]
                self.assertEqual(less, tuple(line_times(field, by, line) for line in behind) if by else behind)
            told += 1
        except ByNought:
            pass
        try:
            pair = solved_pair(field, one, other, wished)
            if pair is not None:
                self.assertEqual(line_plus(field, line_times(field, pair[0], one), line_times(field, pair[1], other)), wished)
            told += 1
        except ByNought:
            pass
        try:
            least, above, beside = least_multiple(field, one, other)
            self.assertEqual((line_times(field, above, one), line_times(field, beside, other)), (least, least))
            told += 1
        except ByNought:
            pass
        try:
            inverse = inverse_line(field, one, other) if len(other) > 1 else None
            if inverse is not None:
                self.assertEqual(divided_lines(field, line_times(field, inverse, one), other)[1], (number_of(field, 1, 1),))
        except ByNought:
            pass
        return told

    def test_wrong_arguments(self):
        for field, good in ((0, ((0, 1), (1, 1))), (5, (1, 3)), (X, ((ONE, ONE),)), (R, (ONE, ONE))):
            wrong = [value for value in any_values() if not is_line(field, value)]
            for function in TWO_LINES:
                self.refuses_all(InvalidLine, function, (field,), wrong, (None,))
                self.refuses_all(InvalidLine, function, (field, good), wrong)
            self.refuses_all(InvalidLine, is_common_paper, (field,), wrong, (None, None))
            self.refuses_all(InvalidLine, is_common_paper, (field, good), wrong, (None,))
            self.refuses_all(InvalidLine, solved_pair, (field,), wrong, (None, None))
            self.refuses_all(InvalidLine, solved_pair, (field, good), wrong, (None,))
            self.refuses_all(InvalidLine, solved_pair, (field, good, good), wrong)
            self.refuses_all(InvalidLine, inverse_line, (field,), wrong, ((),))
            self.refuses_all(InvalidLine, inverse_line, (field, good), wrong)
        for modulus in ((), (3,)):
            self.refused(InvalidBase, inverse_line, 5, (1, 1), modulus)
            self.refused(InvalidLine, inverse_line, 5, (5, 1), modulus)
        self.refused(InvalidLine, common_paper, 5, (1,) * 62, (1,))
        self.assertEqual(common_paper(2, (1,) * 61, (1, 1))[0], (1,))
        for function in TWO_LINES + (inverse_line,):
            self.refuses_fields(function, None, None)
        for function in (is_common_paper, solved_pair):
            self.refuses_fields(function, None, None, None)

    def test_each_name_is_defined_here(self):
        for name in "euclid_rows common_paper is_common_paper solved_pair inverse_line least_multiple".split():
            self.assertEqual(getattr(linegcd, name).__module__, "towerback.linegcd")


if __name__ == "__main__":
    unittest.main()
