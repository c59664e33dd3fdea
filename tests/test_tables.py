"""Points 9 and 63: tables."""

import unittest

from tests.reference import field_for
from tests.support import FIELDS, GREATEST, R, SPLIT, X, Asks, any_values, chances, random_number
from towerback import tables
from towerback.errors import ByNought, InvalidRow, InvalidTable
from towerback.fieldways import number_of
from towerback.tables import inverse_table, reduced_paper, row_by_table, table_by_row, takes_reduced, times_table

ONE = ((1, 1),)


def random_table(chance, field, rows, columns):
    """Return some table, with a nought here and there."""
    nought = number_of(field, 0, 1)
    return tuple(
        tuple(nought if chance.random() < 0.3 else random_number(chance, field, 1) for _ in range(columns)) for _ in range(rows)
    )


def plain_product(field, one, other):
    """Return the product of two tables by plain arithmetic."""
    plain = field_for(field)
    found = []
    for row in one:
        sums = [plain.zero] * len(other[0])
        for number, by in zip(row, other):
            sums = [plain.add(a, plain.times(plain.read(number), plain.read(b))) for a, b in zip(sums, by)]
        found.append(tuple(plain.told(a) for a in sums))
    return tuple(found)


def units(field, many):
    """Return the table of ones."""
    return tuple(tuple(number_of(field, int(i == j), 1) for j in range(many)) for i in range(many))


class Tables(Asks, unittest.TestCase):
    def test_products(self):
        for seed, field in enumerate(FIELDS):
            chance = chances(seed)
            for rows, middle, columns in ((1, 1, 1), (2, 3, 2), (3, 1, 2), (1, 2, 0)):
                one, other = random_table(chance, field, rows, middle), random_table(chance, field, middle, columns)
                self.assertEqual(times_table(field, one, other), plain_product(field, one, other))
                row = random_table(chance, field, 1, middle)[0]
                self.assertEqual(row_by_table(field, other, row), plain_product(field, (row,), other)[0])
                column = plain_product(field, one, tuple((number,) for number in row))
                self.assertEqual(table_by_row(field, one, row), tuple(part[0] for part in column))
        self.assertEqual(row_by_table(5, ((1, 2), (3, 4)), (1, 1)), (4, 1))
        self.assertEqual(table_by_row(5, ((1, 2), (3, 4)), (1, 1)), (3, 2))

    def test_tables_without_columns(self):
        self.assertEqual(times_table(5, ((1,), (2,)), ((),)), ((), ()))
        self.assertEqual(table_by_row(0, ((), ()), ()), ((0, 1), (0, 1)))
        self.assertEqual(table_by_row(R, ((), ()), ()), ((), ()))
        self.assertEqual(row_by_table(5, ((), ()), (1, 1)), ())
        for field in FIELDS:
            self.assertEqual(reduced_paper(field, ((), ())), ((), (), ((), ())))
            self.assertTrue(takes_reduced(field, ((), ()), ((), (), ((), ()))))
        self.refused(InvalidTable, times_table, 5, ((),), ((1,),))

    def test_inverses(self):
        for seed, field in enumerate(FIELDS):
            chance = chances(seed)
            for many in (1, 2, 3):
                ones = units(field, many)
                table = random_table(chance, field, many, many)
                low = [table[i][:i] + ones[i][i:] for i in range(many)]
                high = [ones[i][:i + 1] + table[i][i + 1:] for i in range(many)]
                square = plain_product(field, low[::-1], high)
                inverse = inverse_table(field, square)
                self.assertEqual(plain_product(field, inverse, square), ones)
                self.assertEqual(plain_product(field, square, inverse), ones)
                inverse = inverse_table(field, table)
                if inverse is None:
                    self.assertLess(len(reduced_paper(field, table)[0]), many)
                else:
                    self.assertEqual(plain_product(field, inverse, table), ones)
            self.assertIsNone(inverse_table(field, square[:2] + square[1:2]))
        self.assertEqual(inverse_table(7, ((2, 1), (1, 1))), ((1, 6), (6, 2)))
        self.assertIsNone(inverse_table(5, ((1, 2), (2, 4))))
        self.assertIsNone(inverse_table(0, (((0, 1),),)))
        self.assertEqual(inverse_table(2, units(2, 12)), units(2, 12))
        hilbert = tuple(tuple((1, i + j + 1) for j in range(12)) for i in range(12))
        self.assertEqual(plain_product(0, inverse_table(0, hilbert), hilbert), units(0, 12))

    def test_inverses_of_what_is_not_square(self):
        for table in (((1, 2),), ((1,), (2,)), ((),), units(5, 13)):
            self.refused(InvalidTable, inverse_table, 5, table)

    def check_reduced(self, field, table):
        paper = reduced_paper(field, table)
        self.assertIs(takes_reduced(field, table, paper), True)
        reduced, forth, back = paper
        self.assertEqual((len(forth), len(back)), (len(reduced), len(table)))
        plain, nought, last = field_for(field), number_of(field, 0, 1), -1
        for at, row in enumerate(reduced):
            lead = next(k for k, number in enumerate(row) if number != nought)
            self.assertGreater(lead, last)
            self.assertEqual([other[lead] for other in reduced], [plain.told(plain.one if k == at else plain.zero) for k in range(len(reduced))])
            last = lead
        if reduced:
            self.assertEqual(plain_product(field, forth, table), reduced)
            self.assertEqual(plain_product(field, back, reduced), table)
        else:
            self.assertTrue(all(number == nought for row in table for number in row))
        return paper

    def test_reduced_papers(self):
        for seed, field in enumerate(FIELDS):
            chance = chances(seed)
            for rows, columns in ((1, 1), (2, 2), (2, 3), (3, 2), (1, 4), (4, 1)):
                table = random_table(chance, field, rows, columns)
                self.check_reduced(field, table)
                self.check_reduced(field, table[:1] * 2 + table)
            self.check_reduced(field, (tuple(number_of(field, 0, 1) for _ in range(3)),) * 2)
        self.assertEqual(reduced_paper(5, ((2, 4, 1), (1, 2, 0)))[0], ((1, 2, 0), (0, 0, 1)))
        self.assertEqual(reduced_paper(3, ((0, 0), (0, 0))), ((), (), ((), ())))

    def test_large_tables(self):
        chance = chances(4)
        for field in (2, 9973):
            self.check_reduced(field, tuple(tuple(chance.randrange(field) for _ in range(40)) for _ in range(40)))
        paper = reduced_paper(0, tuple(tuple((chance.randint(-9, 9), 1) for _ in range(40)) for _ in range(40)))
        self.assertEqual(paper[0], units(0, 40))
        great = tuple(tuple((chance.randint(-GREATEST, GREATEST), 1) for _ in range(4)) for _ in range(3))
        self.check_reduced(0, great)

    def test_reduced_papers_that_others_may_tell(self):
        table = ((1, 2), (2, 4), (0, 0))
        reduced = ((1, 2),)
        for forth, back in ((((1, 0, 0),), ((1,), (2,), (0,))), (((0, 3, 0),), ((1,), (2,), (0,))), (((4, 1, 2),), ((1,), (2,), (0,)))):
            self.assertTrue(takes_reduced(5, table, (reduced, forth, back)))
        good = (reduced, ((1, 0, 0),), ((1,), (2,), (0,)))
        for paper in ((((2, 4),), ((2, 0, 0),), ((3,), (1,), (0,))), (((1, 2), (0, 0)), ((1, 0, 0), (0, 0, 1)), ((1, 0), (2, 0), (0, 0))),
                      (((1, 2), (1, 2)), ((1, 0, 0), (1, 0, 0)), ((1, 0), (2, 0), (0, 0))), ((), (), ((), (), ())),
                      (((0, 1),), ((1, 0, 0),), ((1,), (2,), (0,))), (reduced, ((2, 0, 0),), good[2]), (reduced, good[1], ((1,), (3,), (0,)))):
            self.assertIs(takes_reduced(5, table, paper), False, paper)
        self.judges(takes_reduced, (5, table[:2] + ((1, 0),)), reduced_paper(5, table[:2] + ((1, 0),)))
        whole = ((1, 3), (2, 2))
        self.assertFalse(takes_reduced(5, whole, (((1, 3), (0, 1)), ((1, 0), (3, 1)), ((1, 0), (2, 1)))))
        self.assertTrue(takes_reduced(5, units(5, 2), (units(5, 2),) * 3))
        self.assertFalse(takes_reduced(5, units(5, 2), (((0, 1), (1, 0)),) * 3))
        self.assertFalse(takes_reduced(5, ((1, 2), (0, 0)), (((1, 2), (0, 0)), units(5, 2), units(5, 2))))
        for paper in (((((0, 1), (1, 1))), ((0, 3), (1, 2)), ((3, 1), (2, 2))), (((1, 0), (0, 1)), (), ()), (((1, 3), (0, 1)), ((1, 0), (0, 1)), whole)):
            self.assertIs(takes_reduced(5, whole, paper), False)

    def test_spoilt_papers(self):
        self.judges(takes_reduced, (7, ((2, 1, 3), (1, 1, 5))), reduced_paper(7, ((2, 1, 3), (1, 1, 5))))
        table = (((1, 2), (2, 3)), ((3, 1), (-1, 1)))
        self.judges(takes_reduced, (0, table), reduced_paper(0, table))
        table = (((ONE, ((0, 1), (1, 1))), (((0, 1), (1, 1)), ONE)),)
        self.judges(takes_reduced, (X, table), reduced_paper(X, table))
        table = ((((0, 1), (1, 1)), ONE),)
        self.judges(takes_reduced, (R, table), reduced_paper(R, table))

    def test_papers_may_hold_great_numbers(self):
        table = ((((GREATEST, 1)), (GREATEST - 1, GREATEST)), ((3, GREATEST), (7, GREATEST - 3)))
        paper = self.check_reduced(0, table)
        self.assertGreater(max(abs(part) for row in paper[1] for number in row for part in number), GREATEST)

    def test_roots_of_a_line_that_can_be_split(self):
        low = ((-1, 1), (1, 1))
        self.assertEqual(times_table(SPLIT, ((low,),), ((((1, 1), (1, 1)),),)), (((),),))
        for table in (((low,),), ((ONE, low), (low, ONE)), ((low, ONE), (ONE, low)), (((), ONE), (ONE, low))):
            for function in (inverse_table, reduced_paper):
                try:
                    told = function(SPLIT, table)
                except ByNought:
                    continue
                if function is reduced_paper:
                    self.assertTrue(takes_reduced(SPLIT, table, told))
                else:
                    self.assertEqual(times_table(SPLIT, told, table), units(SPLIT, len(table)))
        self.assertEqual(inverse_table(SPLIT, (((), ONE), (ONE, low))), ((((1, 1), (-1, 1)), ONE), (ONE, ())))
        self.assertTrue(takes_reduced(SPLIT, ((ONE, low),), (((ONE, low),), ((ONE,),), ((ONE,),))))
        self.judges(takes_reduced, (SPLIT, ((ONE, ((2, 1),)),)), (((ONE, ((2, 1),)),), ((ONE,),), ((ONE,),)))

    def test_limits(self):
        row = (1,) * 40
        self.assertEqual(len(reduced_paper(2, (row,) * 40)[0]), 1)
        self.assertEqual(times_table(2, ((1,),) * 40, (row,)), (row,) * 40)
        for table in ((), (row,) * 41, (row + (1,),), ((1,) * 41,) * 2):
            self.refused(InvalidTable, reduced_paper, 2, table)
            self.refused(InvalidTable, times_table, 2, table, ((1,),))
            self.refused(InvalidTable, times_table, 2, ((1,),), table)

    def test_wrong_tables(self):
        wrong = any_values() + [((1, 2), (3,)), ((1, 5),), [(1, 2)], ([1, 2],), ((1, True),), ((1, None),), ((1, -1),), (1, 2), ((1,), None), ((),) * 41]
        for value in wrong:
            if value == ((),) * 3:
                continue
            self.refused(InvalidTable, times_table, 5, value, ((9,),))
            self.refused(InvalidTable, times_table, 5, ((1,),), value)
            self.refused(InvalidTable, table_by_row, 5, value, None)
            self.refused(InvalidTable, row_by_table, 5, value, None)
            self.refused(InvalidTable, inverse_table, 5, value)
            self.refused(InvalidTable, reduced_paper, 5, value)
            self.refused(InvalidTable, takes_reduced, 5, value, None)
        self.refused(InvalidTable, reduced_paper, 0, (((2, 4),),))
        self.refused(InvalidTable, reduced_paper, 0, (((GREATEST + 1, 1),),))
        self.refused(InvalidTable, times_table, 5, ((1, 2),), ((1, 2),))

    def test_wrong_rows(self):
        table = ((1, 2, 3), (4, 0, 1))
        wrong = any_values() + [[1, 2, 3], (1, 2, 5), (1, 2, True), (1, 2), (1, 2, 3, 4), (1, None, 2)]
        self.refuses_all(InvalidRow, table_by_row, (5, table), wrong + [(1, 2)])
        self.refuses_all(InvalidRow, row_by_table, (5, table), [value for value in wrong if value != (1, 2)] + [(1, 2, 3)])
        self.refused(InvalidRow, table_by_row, 0, (((1, 1),),), ((GREATEST + 1, 1),))
        self.assertEqual(row_by_table(5, table, (1, 2)), (4, 2, 0))

    def test_wrong_fields(self):
        for function in (times_table, table_by_row, row_by_table, takes_reduced):
            self.refuses_fields(function, None, None)
        for function in (inverse_table, reduced_paper):
            self.refuses_fields(function, None)

    def test_each_name_is_defined_here(self):
        for name in "times_table table_by_row row_by_table inverse_table reduced_paper takes_reduced".split():
            self.assertEqual(getattr(tables, name).__module__, "towerback.tables")


if __name__ == "__main__":
    unittest.main()
