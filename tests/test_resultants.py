"""Points 11 and 68: resultants."""

import unittest

from tests.support import FIELDS, GREATEST, R, SPLITS, X, Asks, all_lines, any_values, chances, random_line, trimmed
from tests.test_determinants import plain_determinant
from tests.test_linegcd import ONE, mixed, pairs_of_lines, plain_rows
from towerback import resultants
from towerback.determinants import determinant_of
from towerback.errors import ByNought, EmptyLine, InvalidLine
from towerback.fieldways import is_line, number_of, number_times
from towerback.lineways import common_line, divided_lines, line_at, line_minus, line_plus, line_times, scaled_line
from towerback.resultants import is_resultant_paper, resultant, resultant_paper, sylvester


def table_of(field, one, other, index, column):
    """Return the table of two lines for an index and a column, as the document tells it."""
    m, n = len(one) - 1, len(other) - 1
    nought = number_of(field, 0, 1)
    rows = [(nought,) * power + one for power in range(n - index - 1, -1, -1)]
    rows += [(nought,) * power + other for power in range(m - index - 1, -1, -1)]
    degrees = list(range(m + n - index - 1, index, -1)) + [column]
    return tuple(tuple(row[at] if at < len(row) else nought for at in degrees) for row in rows)


def table_determinant(field, table):
    """Return the determinant of a table, also of one without rows."""
    if not table:
        return number_of(field, 1, 1)
    return plain_determinant(field, table) if len(table) <= 4 else determinant_of(field, table)


def quotients_by_rows(field, one, other):
    """Return the quotients of each rest by the next one, as long as this has the degree 1 or more."""
    rests = [row[0] for row in plain_rows(field, one, other)]
    return tuple(divided_lines(field, rest, behind)[0] for rest, behind in zip(rests, rests[1:]) if len(behind) > 1)


class Resultants(Asks, unittest.TestCase):
    def check(self, field, one, other):
        """Ask that the resultant and its paper are as told; return the resultant."""
        number, paper = resultant(field, one, other), resultant_paper(field, one, other)
        self.assertIs(is_resultant_paper(field, one, other, paper), True, (field, one, other, paper))
        self.assertEqual(paper[0], number)
        self.assertEqual(paper[1], quotients_by_rows(field, one, other))
        self.assertTrue(paper[2] or paper[3])
        self.assertLessEqual(len(paper[2]), max(1, len(other) - 1))
        self.assertLessEqual(len(paper[3]), max(1, len(one) - 1))
        self.assertEqual(mixed(field, paper[2], one, paper[3], other), trimmed(field, (number,)))
        self.assertEqual(number == number_of(field, 0, 1), len(common_line(field, one, other)) > 1)
        return number

    def test_resultants_are_determinants(self):
        for seed, field in enumerate(FIELDS):
            for one, other in pairs_of_lines(chances(seed), field, 3 if isinstance(field, int) else 2):
                if one and other:
                    table = table_of(field, one, other, 0, 0)
                    self.assertEqual(sylvester(field, one, other), table)
                    self.assertEqual(self.check(field, one, other), table_determinant(field, table))
        for prime in (2, 3):
            lines = all_lines(prime, 3)[1:]
            for one in lines:
                for other in lines:
                    self.assertEqual(self.check(prime, one, other), table_determinant(prime, table_of(prime, one, other, 0, 0)))

    def test_lines_of_one_number(self):
        for field in (0, 7, X, R):
            three, two = number_of(field, 3, 1), number_of(field, 2, 1)
            self.assertEqual(sylvester(field, (three,), (two,)), ())
            self.assertEqual(self.check(field, (three,), (two,)), number_of(field, 1, 1))
            self.assertEqual(sylvester(field, (three, two, two), (three,)), ((three,) + (number_of(field, 0, 1),), (number_of(field, 0, 1), three)))
            self.assertEqual(self.check(field, (three, two, two), (three,)), number_of(field, 9, 1))
            self.assertEqual(self.check(field, (three,), (three, two, two, three)), number_of(field, 27, 1))
        self.assertEqual(self.check(5, (1, 1), (3,)), 3)
        self.assertEqual(self.check(5, (3,), (1, 1)), 3)

    def test_the_signs_of_both_orders(self):
        for one, other in (((1, 1), (2, 1)), ((1, 2, 1, 3), (2, 0, 4)), ((1, 2, 1, 3), (2, 0, 4, 1)), ((1, 1, 0, 0, 0, 1), (2, 1, 1, 2))):
            sign = (-1) ** ((len(one) - 1) * (len(other) - 1))
            self.assertEqual(self.check(7, one, other), sign * self.check(7, other, one) % 7)

    def test_resultants_are_products_of_values_at_roots(self):
        chance = chances(6)
        for field in (0, 9973, X, R):
            roots = [number_of(field, chance.randint(-9, 9), 1) for _ in range(3 if field == X else 5)]
            lead = number_of(field, 3, 1)
            one = (lead,)
            for root in roots:
                one = line_times(field, one, line_minus(field, (number_of(field, 0, 1), number_of(field, 1, 1)), trimmed(field, (root,))))
            other = random_line(chance, field, 3)
            product = number_of(field, 1, 1)
            for root in roots:
                product = number_times(field, product, line_at(field, other, root))
            for _ in range(len(other) - 1):
                product = number_times(field, product, lead)
            self.assertEqual(self.check(field, one, other), product)

    def test_longer_lines(self):
        chance = chances(3)
        for field, many in ((0, 7), (2, 7), (9973, 7), (R, 4)):
            one, other = random_line(chance, field, many), random_line(chance, field, many - 1)
            self.assertEqual(self.check(field, one, other), table_determinant(field, table_of(field, one, other, 0, 0)))
        for prime in (2, 3, 9973):
            one, other = random_line(chance, prime, 61), random_line(chance, prime, 61)
            self.check(prime, one, other)
            self.check(prime, (1,) + (0,) * 59 + (1,), other)
        great = tuple((chance.randint(-GREATEST, GREATEST), 1) for _ in range(7))
        self.assertEqual(self.check(0, great, great[2:]), table_determinant(0, table_of(0, great, great[2:], 0, 0)))
        self.assertEqual(len(sylvester(2, (1,) * 61, (1,) * 61)), 120)

    def test_products(self):
        """The resultant of a product is the product of the resultants."""
        chance = chances(8)
        for field in FIELDS:
            one, other, more = (random_line(chance, field, 2) for _ in range(3))
            if one and other and more:
                product = number_times(field, resultant(field, one, more), resultant(field, other, more))
                self.assertEqual(resultant(field, line_times(field, one, other), more), product)

    def test_papers_that_others_may_tell(self):
        one, other = (2, 3, 1), (4, 1)
        taken = []
        for first in all_lines(7, 1):
            for second in all_lines(7, 2):
                if is_resultant_paper(7, one, other, (6, ((6, 1),), first, second)):
                    taken.append((first, second))
        self.assertEqual(taken, [((1,), (1, 6))])
        self.assertFalse(is_resultant_paper(7, one, other, (6, ((6, 1),), (1, 4, 1), (5, 4, 3, 6))))
        self.assertFalse(is_resultant_paper(7, one, other, (6, ((6, 1), ()), (1,), (1, 6))))
        self.assertFalse(is_resultant_paper(7, one, other, (6, ((6, True),), (1,), (1, 6))))
        self.assertFalse(is_resultant_paper(7, one, other, (3, ((6, 1),), (4,), (4, 3))))
        one, other = line_times(5, (1, 1), (2, 0, 1)), line_times(5, (1, 1), (3, 1))
        paper = resultant_paper(5, one, other)
        self.assertEqual(paper[0], 0)
        for number in range(5):
            scaled = paper[:2] + tuple(scaled_line(5, line, number) for line in paper[2:])
            self.assertIs(is_resultant_paper(5, one, other, scaled), number != 0)
        one, other = line_times(5, (1, 0, 1), (2, 0, 1)), line_times(5, (1, 0, 1), (3, 1))
        quotients = resultant_paper(5, one, other)[1]
        taken = 0
        for more in all_lines(5, 2)[1:]:
            first, second = line_times(5, more, (3, 1)), line_times(5, more, (3, 0, 4))
            taken += is_resultant_paper(5, one, other, (0, quotients, first, second))
            self.assertIs(is_resultant_paper(5, one, other, (0, quotients, first, second)), len(first) < 4 and len(second) < 5)
        self.assertEqual(taken, 24)

    def test_spoilt_papers(self):
        x = ((0, 1), (1, 1))
        for field, one, other in ((7, (2, 3, 1), (4, 1, 2)), (5, (2, 3, 1, 2), (4, 1)), (5, (4, 1), (2, 3, 1, 2)), (7, (3,), (2,)), (7, (3, 1), (2,)),
                                  (0, ((1, 2), (2, 3), (1, 1)), ((1, 1), (3, 2))), (X, ((ONE, x), (ONE, ONE)), ((x, ONE), (ONE, ONE))),
                                  (R, (x, ONE), (ONE, (), ONE))):
            paper = resultant_paper(field, one, other)
            if (field, len(one), len(other)) in ((7, 1, 1), (7, 2, 1)):
                # Another pair of lines of one number comes to the same.
                self.judges(is_resultant_paper, (field, one, other), paper, False)
            else:
                self.judges(is_resultant_paper, (field, one, other), paper)

    def test_roots_of_a_line_that_can_be_split(self):
        for seed, field in enumerate(SPLITS):
            chance, told = chances(seed), 0
            for _ in range(2):
                for one, other in pairs_of_lines(chance, field, 2):
                    if not one or not other:
                        continue
                    number = plain_determinant(field, table_of(field, one, other, 0, 0)) if len(one) + len(other) > 2 else number_of(field, 1, 1)
                    try:
                        self.assertEqual(resultant(field, one, other), number)
                        told += 1
                        paper = resultant_paper(field, one, other)
                        self.assertEqual(paper[0], number)
                        self.assertIs(is_resultant_paper(field, one, other, paper), True)
                        comes = line_plus(field, line_times(field, paper[2], one), line_times(field, paper[3], other))
                        self.assertEqual(comes, (number,) if number else ())
                    except ByNought:
                        pass
            self.assertGreater(told, 6)

    def test_wrong_arguments(self):
        for field, good in ((0, ((0, 1), (1, 1))), (5, (1, 3)), (X, ((ONE, ONE),)), (R, (ONE, ONE))):
            wrong = [value for value in any_values() if not is_line(field, value)]
            for function in (sylvester, resultant, resultant_paper):
                self.refuses_all(InvalidLine, function, (field,), wrong, (None,))
                self.refuses_all(InvalidLine, function, (field, good), wrong)
                self.refused(EmptyLine, function, field, (), None)
                self.refused(EmptyLine, function, field, (), ())
                self.refused(EmptyLine, function, field, good, ())
            self.refuses_all(InvalidLine, is_resultant_paper, (field,), wrong, ((), None))
            self.refuses_all(InvalidLine, is_resultant_paper, (field, good), wrong, (None,))
            self.refused(EmptyLine, is_resultant_paper, field, (), None, None)
            self.refused(EmptyLine, is_resultant_paper, field, good, (), None)
        for function in (sylvester, resultant, resultant_paper):
            self.refuses_fields(function, (), ())
            self.refused(InvalidLine, function, 2, (1,) * 62, (1,))
        self.refuses_fields(is_resultant_paper, None, None, None)

    def test_each_name_is_defined_here(self):
        for name in "sylvester resultant resultant_paper is_resultant_paper".split():
            self.assertEqual(getattr(resultants, name).__module__, "towerback.resultants")


if __name__ == "__main__":
    unittest.main()
