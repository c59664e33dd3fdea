"""Points 11 and 69: subresultants."""

import unittest

from tests.support import FIELDS, GREATEST, R, SPLITS, X, Asks, all_lines, any_values, chances, random_line, trimmed
from tests.test_determinants import plain_determinant
from tests.test_linegcd import ONE, mixed, pairs_of_lines
from tests.test_resultants import table_determinant, table_of
from towerback import subresultants
from towerback.errors import ByNought, EmptyLine, InvalidField, InvalidIndex, InvalidLine, TooMany
from towerback.fieldways import is_line, number_of
from towerback.linegcd import common_paper
from towerback.lineways import common_line, line_plus, line_times, scaled_line
from towerback.resultants import resultant
from towerback.subresultants import is_subresultant_row, leading_number, subresultant, subresultant_row, subresultants_of


def indices_of(one, other):
    """Return the indices of two lines."""
    low, high = sorted((len(one) - 1, len(other) - 1))
    return [index for index in range(low + 1) if index < high]


def told_subresultant(field, one, other, index):
    """Return the subresultant, as the line of the determinants of tables."""
    return trimmed(field, [table_determinant(field, table_of(field, one, other, index, column)) for column in range(index + 1)])


class Subresultants(Asks, unittest.TestCase):
    def check(self, field, one, other):
        """Ask that the subresultants, and the rows that show them, are as told."""
        found = []
        for index in indices_of(one, other):
            line = told_subresultant(field, one, other, index)
            self.assertEqual(subresultant(field, one, other, index), line)
            leading = line[index] if len(line) > index else number_of(field, 0, 1)
            self.assertEqual(leading_number(field, one, other, index), leading)
            row = subresultant_row(field, one, other, index)
            self.assertIs(is_subresultant_row(field, one, other, index, row), True)
            self.assertEqual(row[0], line)
            self.assertEqual(mixed(field, row[1], one, row[2], other), line)
            self.assertLessEqual(len(row[1]), max(1, len(other) - 1 - index))
            self.assertLessEqual(len(row[2]), max(1, len(one) - 1 - index))
            if line:
                found.append((index, line))
        self.assertEqual(subresultants_of(field, one, other), tuple(found))
        return found

    def test_subresultants_are_determinants(self):
        for seed, field in enumerate(FIELDS):
            for one, other in pairs_of_lines(chances(seed), field, 4 if isinstance(field, int) else 2):
                if one and other:
                    self.check(field, one, other)
        for prime, many in ((2, 4), (3, 3)):
            lines = all_lines(prime, many)[1:]
            for one in lines:
                for other in lines:
                    self.check(prime, one, other)

    def test_longer_lines(self):
        chance = chances(3)
        for field, many in ((0, 7), (2, 7), (3, 7), (9973, 7), (R, 4), (("root", 5, (2, 0, 1)), 5)):
            for less in (0, 1, 3):
                one, other = random_line(chance, field, many), random_line(chance, field, many - less)
                self.check(field, one, other)
                self.check(field, other, one)
        self.check(5, (1, 0, 0, 0, 0, 0, 2), (3, 0, 0, 0, 1))
        self.check(5, (1, 0, 0, 0, 1), (3, 0, 0, 0, 0, 0, 2))
        self.check(5, (1, 0, 0, 0, 0, 0, 2), (3, 1, 0, 0, 0, 2))
        self.check(5, (0, 0, 0, 0, 0, 2), (0, 0, 4))
        great = tuple((chance.randint(-GREATEST, GREATEST), 1) for _ in range(6))
        self.check(0, great, great[3:])

    def test_degrees_and_indices(self):
        """The degree of the common divisor is the least index whose leading number is not nought, or the lesser degree."""
        lines = all_lines(3, 4)[1:]
        for one in lines[::5]:
            for other in lines[::7]:
                degree = len(common_line(3, one, other)) - 1
                leads = [index for index in indices_of(one, other) if leading_number(3, one, other, index)]
                self.assertEqual(degree, min(leads, default=min(len(one), len(other)) - 1))
                if 0 in indices_of(one, other):
                    self.assertEqual(subresultant(3, one, other, 0), trimmed(3, (resultant(3, one, other),)))

    def test_indices(self):
        for one, other in (((1, 2, 1), (1, 1)), ((1, 1), (1, 2, 1)), ((1, 2, 1), (2, 1, 1)), ((3,), (1, 1)), ((1, 1), (3,)), ((1,), (2,)), ((2, 1), (1, 1))):
            good = indices_of(one, other)
            for index in [-1, 3, 100] + list(range(4)):
                if index in good:
                    self.assertEqual(subresultant(5, one, other, index), told_subresultant(5, one, other, index))
                    continue
                for function in (subresultant, leading_number, subresultant_row):
                    self.refused(InvalidIndex, function, 5, one, other, index)
                self.refused(InvalidIndex, is_subresultant_row, 5, one, other, index, ((), (), ()))
        for function in (subresultant, leading_number, subresultant_row):
            self.refuses_all(InvalidIndex, function, (5, (1, 2, 1), (1, 1)), any_values())
        self.refuses_all(InvalidIndex, is_subresultant_row, (5, (1, 2, 1), (1, 1)), any_values(), (None,))
        self.assertEqual(subresultants_of(5, (1,), (2,)), ())
        self.assertEqual(subresultants_of(5, (1, 1), (2, 2)), ())

    def test_degrees_that_come_to_too_many(self):
        for one, other in (((1,) * 13, (1,) * 14), ((1,) * 26, (1,)), ((1,), (1,) * 26), ((1,) * 61, (1,) * 61)):
            self.refused_with(24, subresultant, 2, one, other, 0)
            self.refused_with(24, leading_number, 2, one, other, 0)
            self.refused_with(24, subresultant_row, 2, one, other, 0)
            self.refused_with(24, is_subresultant_row, 2, one, other, 0, None)
            self.refused_with(24, subresultants_of, 2, one, other)
            self.refused(InvalidIndex, subresultant, 2, one, other, None)
            self.refused(InvalidIndex, is_subresultant_row, 2, one, other, 61, None)
            self.refused(EmptyLine, subresultants_of, 2, one, ())
        chance = chances(1)
        for prime in (2, 3, 9973):
            one, other = (tuple(chance.randrange(prime) for _ in range(12)) + (1,) for _ in range(2))
            for index in (0, 3, 11):
                row = subresultant_row(prime, one, other, index)
                self.assertTrue(is_subresultant_row(prime, one, other, index, row))
            self.assertEqual(subresultant(prime, one, other, 7), told_subresultant(prime, one, other, 7))
            self.assertEqual(subresultant(prime, (1,) * 25, (prime - 1,), 0), (1,))
            near = line_plus(prime, one, (1,))
            self.assertEqual(subresultants_of(prime, one, near), ((0, (1,)), (11, told_subresultant(prime, one, near, 11))))

    def refused_with(self, limit, function, *arguments):
        """Ask that a call raises TooMany with a limit."""
        with self.assertRaises(TooMany) as caught:
            function(*arguments)
        self.assertEqual(caught.exception.limit, limit)

    def test_rows_that_others_may_tell(self):
        one, other, index = (2, 3, 1, 1), (3, 4, 1), 0
        line = subresultant(7, one, other, index)
        taken = []
        for first in all_lines(7, 2):
            for second in all_lines(7, 3):
                if is_subresultant_row(7, one, other, index, (line, first, second)):
                    taken.append((line, first, second))
        self.assertEqual(taken, [subresultant_row(7, one, other, index)])
        more = line_plus(7, taken[0][1], other), line_plus(7, taken[0][2], scaled_line(7, one, 6))
        self.assertIs(is_subresultant_row(7, one, other, index, (line,) + more), False)
        twice = tuple(scaled_line(7, part, 2) for part in taken[0])
        self.assertIs(is_subresultant_row(7, one, other, index, twice), False)
        one, other = line_times(5, (1, 0, 1), (2, 0, 1)), line_times(5, (1, 0, 1), (3, 1))
        self.assertIs(is_subresultant_row(5, one, other, 1, ((), (), ())), True)
        taken = []
        for first in all_lines(5, 2):
            for second in all_lines(5, 3):
                if is_subresultant_row(5, one, other, 1, ((), first, second)):
                    taken.append(len(first))
        self.assertEqual(taken, [0] + [2] * 4)

    def test_spoilt_rows(self):
        x = ((0, 1), (1, 1))
        for field, one, other, index in ((7, (2, 3, 1, 6), (3, 4, 1), 0), (7, (2, 3, 1, 6), (3, 4, 1), 1), (7, (2, 3, 1, 6), (3, 4, 1), 2), (7, (3, 4, 1), (2, 3, 1, 6), 2),
                                         (0, ((1, 2), (2, 3), (1, 1)), ((1, 1), (3, 2)), 0), (X, ((ONE, x), (ONE, ONE), (ONE, ONE)), ((x, ONE), (ONE, ONE), (ONE, ONE)), 1),
                                         (R, (x, ONE, x), (ONE, (), ONE), 0)):
            self.judges(is_subresultant_row, (field, one, other, index), subresultant_row(field, one, other, index))

    def test_roots_of_a_line_that_can_be_split(self):
        for seed, field in enumerate(SPLITS):
            chance, told = chances(seed), 0
            for _ in range(2):
                for one, other in pairs_of_lines(chance, field, 2):
                    for index in indices_of(one, other) if one and other else ():
                        line = told_line(field, one, other, index)
                        try:
                            self.assertEqual(subresultant(field, one, other, index), line)
                            row = subresultant_row(field, one, other, index)
                            self.assertTrue(is_subresultant_row(field, one, other, index, row))
                            told += 1
                            found = dict(subresultants_of(field, one, other))
                            self.assertNotIn((), found.values())
                            self.assertEqual(found.get(index, ()), line)
                        except ByNought:
                            pass
            self.assertGreater(told, 3)
        nought = ((-1, 1), (1, 1))
        field = SPLITS[1]
        self.assertEqual(subresultants_of(field, (ONE, ONE, ONE), (nought,)), ())
        self.assertEqual(subresultant(field, (ONE, ONE, ONE), (nought,), 0), ())

    def test_wrong_arguments(self):
        for field, good in ((0, ((0, 1), (1, 1))), (5, (1, 3)), (X, ((ONE, ONE),)), (R, (ONE, ONE))):
            wrong = [value for value in any_values() if not is_line(field, value)]
            for function in (subresultant, leading_number, subresultant_row):
                self.refuses_all(InvalidLine, function, (field,), wrong, ((), None))
                self.refuses_all(InvalidLine, function, (field, good), wrong, (None,))
                self.refused(EmptyLine, function, field, (), None, None)
                self.refused(EmptyLine, function, field, good, (), None)
            self.refuses_all(InvalidLine, subresultants_of, (field,), wrong, ((),))
            self.refuses_all(InvalidLine, subresultants_of, (field, good), wrong)
            self.refused(EmptyLine, subresultants_of, field, (), None)
            self.refuses_all(InvalidLine, is_subresultant_row, (field,), wrong, ((), None, None))
            self.refuses_all(InvalidLine, is_subresultant_row, (field, good), wrong, (None, None))
            self.refused(EmptyLine, is_subresultant_row, field, (), None, None, None)
        for function in (subresultant, leading_number, subresultant_row):
            self.refuses_fields(function, (), None, None)
        self.refuses_fields(subresultants_of, (), ())
        self.refuses_fields(is_subresultant_row, None, None, None, None)
        self.refused(InvalidField, subresultant, 4, (), (), 0)

    def test_each_name_is_defined_here(self):
        for name in "subresultant leading_number subresultant_row is_subresultant_row subresultants_of".split():
            self.assertEqual(getattr(subresultants, name).__module__, "towerback.subresultants")


def told_line(field, one, other, index):
    """Return the subresultant over a field with roots of a line that can be split, by sums over all orders."""
    tables = [table_of(field, one, other, index, column) for column in range(index + 1)]
    return trimmed(field, [plain_determinant(field, table) for table in tables])


if __name__ == "__main__":
    unittest.main()
