"""Points 9 and 64: determinants."""

import itertools
import unittest

from tests.reference import field_for
from tests.support import FIELDS, GREATEST, R, SPLIT, SPLITS, X, Asks, all_rows, any_values, chances, random_number
from tests.test_tables import ONE, plain_product, random_table, units
from towerback import determinants
from towerback.determinants import determinant_of, determinant_paper, takes_determinant, whole_determinant
from towerback.errors import ByNought, InvalidTable
from towerback.fieldways import number_of


def is_odd(order):
    """Tell whether an odd number of pairs of an order have the greater index first."""
    return sum(order[i] > order[j] for i, j in itertools.combinations(range(len(order)), 2)) % 2 == 1


def plain_determinant(field, table):
    """Return the determinant of a small table as the sum over all orders, by plain arithmetic."""
    plain = field_for(field)
    rows = [[plain.read(number) for number in row] for row in table]
    found = plain.zero
    for order in itertools.permutations(range(len(rows))):
        product = plain.one
        for row, at in zip(rows, order):
            product = plain.times(product, row[at])
        found = plain.add(found, plain.negative(product) if is_odd(order) else product)
    return plain.told(found)


def told_apart(field, paper, table):
    """Tell whether a "value" is as the document says, by plain arithmetic."""
    word, determinant, order, low, high = paper
    plain, many = field_for(field), len(table)
    nought, one = number_of(field, 0, 1), number_of(field, 1, 1)
    product = plain.one
    for at in range(many):
        product = plain.times(product, plain.read(high[at][at]))
    product = plain.told(plain.negative(product) if is_odd(order) else product)
    shapes = all(low[i][i] == one and high[i][i] != nought for i in range(many))
    shapes = shapes and all(low[i][j] == nought and high[j][i] == nought for i in range(many) for j in range(i + 1, many))
    rows = plain_product(field, low, high) == tuple(table[index] for index in order)
    return shapes and rows and word == "value" and determinant == product


class Determinants(Asks, unittest.TestCase):
    def check(self, field, table):
        """Ask that the determinant's paper is taken, and is as told; return the determinant."""
        determinant, paper = determinant_of(field, table), determinant_paper(field, table)
        self.assertIs(takes_determinant(field, table, paper), True)
        if determinant == number_of(field, 0, 1):
            self.assertEqual((paper[0], len(paper)), ("nought", 2))
            self.assertTrue(any(number != determinant for number in paper[1]))
            self.assertEqual(plain_product(field, (paper[1],), table), ((determinant,) * len(table),))
        else:
            self.assertEqual(paper[1], determinant)
            self.assertTrue(told_apart(field, paper, table))
        return determinant

    def test_determinants_are_sums_over_all_orders(self):
        for seed, field in enumerate(FIELDS):
            chance = chances(seed)
            for many in (1, 2, 3):
                for _ in range(3):
                    table = random_table(chance, field, many, many)
                    self.assertEqual(self.check(field, table), plain_determinant(field, table))
            twice = table[:2] + table[1:2]
            self.assertEqual(self.check(field, twice), number_of(field, 0, 1))
            self.check(field, ((number_of(field, 0, 1),),))
            self.check(field, (tuple(number_of(field, 0, 1) for _ in range(2)),) * 2)

    def test_all_small_tables(self):
        for prime in (2, 3):
            for numbers in all_rows(prime, 4):
                table = (numbers[:2], numbers[2:])
                self.assertEqual(self.check(prime, table), plain_determinant(prime, table))
                nulls = [row for row in all_rows(prime, 2) if any(row) and not any(plain_product(prime, (row,), table)[0])]
                taken = [row for row in all_rows(prime, 2) if takes_determinant(prime, table, ("nought", row))]
                self.assertEqual(taken, nulls)
        for numbers in all_rows(2, 9):
            table = (numbers[:3], numbers[3:6], numbers[6:])
            self.assertEqual(self.check(2, table), plain_determinant(2, table))

    def test_all_papers_of_small_tables(self):
        """Each tuple of the right shape is a paper just if it is as told."""
        for table in (((1, 2), (2, 2)), ((0, 1), (1, 2)), ((0, 2), (1, 0)), ((1, 1), (2, 2))):
            taken = 0
            for numbers in all_rows(3, 4):
                low, high = ((1, 0), (numbers[0], 1)), ((numbers[1], numbers[2]), (0, numbers[3]))
                for order in ((0, 1), (1, 0)):
                    for determinant in range(3):
                        paper = ("value", determinant, order, low, high)
                        told = told_apart(3, paper, table)
                        self.assertIs(takes_determinant(3, table, paper), told)
                        taken += told
            self.assertEqual(taken, 0 if plain_determinant(3, table) == 0 else sum(row[0] != 0 for row in table))

    def test_large_tables(self):
        chance = chances(2)
        for field in (0, 2, 9973, X, R, ("root", 5, (2, 0, 1))):
            self.assertEqual(self.check(field, units(field, 12)), number_of(field, 1, 1))
            swapped = units(field, 12)[1::-1] + units(field, 12)[2:]
            self.assertEqual(self.check(field, swapped), number_of(field, -1, 1))
            turned = units(field, 12)[1:] + units(field, 12)[:1]
            self.assertEqual(self.check(field, turned), number_of(field, -1, 1))
            many = 12 if isinstance(field, int) else 5
            self.check(field, random_table(chance, field, many, many))
            table = random_table(chance, field, many - 1, many)
            self.assertEqual(self.check(field, table[:3] + table[1:2] + table[3:]), number_of(field, 0, 1))
        hilbert = tuple(tuple((1, i + j + 1) for j in range(4)) for i in range(4))
        self.assertEqual(self.check(0, hilbert), (1, 6048000))
        great = tuple(tuple((chance.randint(-GREATEST, GREATEST), chance.randint(1, 9)) for _ in range(3)) for _ in range(3))
        great = tuple(tuple(number_of(0, *number) for number in row) for row in great)
        self.assertEqual(self.check(0, great), plain_determinant(0, great))
        x = ((0, 1), (1, 1))
        powers = tuple(tuple(((((0, 1),) * j + (((i + 1) ** j, 1),)), ONE) for j in range(6)) for i in range(6))
        self.assertEqual(self.check(X, powers), (((0, 1),) * 15 + ((34560, 1),), ONE))
        self.assertEqual(determinant_of(X, (((x, ONE), (ONE, x)), ((x, ONE), (ONE, x)))), ((), ONE))

    def test_papers_that_others_may_tell(self):
        table = ((1, 2), (2, 4))
        for row in ((3, 1), (1, 2), (4, 3), (2, 4)):
            self.assertIs(takes_determinant(5, table, ("nought", row)), True)
        for row in ((0, 0), (3, 2), (3,), (3, 1, 0), (3, 6), [3, 1], (3, True)):
            self.assertIs(takes_determinant(5, table, ("nought", row)), False)
        table = ((1, 2), (3, 4))
        self.assertTrue(takes_determinant(5, table, ("value", 3, (0, 1), ((1, 0), (3, 1)), ((1, 2), (0, 3)))))
        self.assertTrue(takes_determinant(5, table, ("value", 3, (1, 0), ((1, 0), (2, 1)), ((3, 4), (0, 4)))))
        for determinant, order, low, high in (
            (3, (0, 0), ((1, 0), (3, 1)), ((1, 2), (0, 3))), (2, (0, 1), ((1, 0), (3, 1)), ((1, 2), (0, 3))),
            (3, (1, 0), ((1, 0), (3, 1)), ((1, 2), (0, 3))), (3, (0, 1), ((1, 0), (3, 1)), ((1, 2), (0, 3), ())),
            (3, (0, True), ((1, 0), (3, 1)), ((1, 2), (0, 3))), (3, (0, 1), ((2, 0), (1, 1)), ((3, 1), (0, 3))),
            (3, (0, 1, 2), ((1, 0), (3, 1)), ((1, 2), (0, 3))), (8, (0, 1), ((1, 0), (3, 1)), ((1, 2), (0, 3))),
            (3, (0, 1), ((True, 0), (3, 1)), ((1, 2), (0, 3))), (3, (0, 1), ((1, 0), (3, 1)), ((1, 2), (False, 3))),
            (3, (0, 2), ((1, 0), (3, 1)), ((1, 2), (0, 3))), (0, (0, 1), ((1, 0), (3, 1)), ((1, 2), (0, 0))),
        ):
            self.assertIs(takes_determinant(5, table, ("value", determinant, order, low, high)), False)
        self.assertFalse(takes_determinant(5, ((0, 1), (0, 2)), ("value", 0, (0, 1), ((1, 0), (2, 1)), ((0, 1), (0, 0)))))

    def test_spoilt_papers(self):
        self.judges(takes_determinant, (7, ((0, 2, 1), (3, 0, 5), (1, 1, 1))), determinant_paper(7, ((0, 2, 1), (3, 0, 5), (1, 1, 1))))
        table = (((1, 2), (2, 3)), ((3, 1), (-1, 1)))
        self.judges(takes_determinant, (0, table), determinant_paper(0, table))
        table = (((1, 2), (0, 1)), ((3, 1), (0, 1)))
        self.judges(takes_determinant, (0, table), determinant_paper(0, table))
        table = ((ONE, ((0, 1), (1, 1))), (((0, 1), (1, 1)), ONE))
        self.judges(takes_determinant, (R, table), determinant_paper(R, table))
        table = (((ONE, ((0, 1), (1, 1))), ((), ONE)), (((), ONE), (((0, 1), (1, 1)), ONE)))
        self.judges(takes_determinant, (X, table), determinant_paper(X, table))
        self.judges(takes_determinant, (2, ((1,),)), ("value", 1, (0,), ((1,),), ((1,),)))
        self.judges(takes_determinant, (2, ((0,),)), ("nought", (1,)))

    def test_papers_may_hold_great_numbers(self):
        table = tuple(tuple((GREATEST - 3 * i - j ** 3, GREATEST - 7 * j) for j in range(3)) for i in range(3))
        table = tuple(tuple(number_of(0, *number) for number in row) for row in table)
        self.assertEqual(self.check(0, table), plain_determinant(0, table))
        self.assertTrue(takes_determinant(0, (((0, 1),),), ("nought", ((10 ** 119, 1),))))

    def test_roots_of_a_line_that_can_be_split(self):
        for seed, field in enumerate(SPLITS):
            chance, told = chances(seed), 0
            for _ in range(30):
                table = random_table(chance, field, 2 + seed % 2, 2 + seed % 2)
                determinant = plain_determinant(field, table)
                try:
                    self.assertEqual(determinant_of(field, table), determinant)
                    told += 1
                except ByNought:
                    pass
                try:
                    paper = determinant_paper(field, table)
                    self.assertTrue(takes_determinant(field, table, paper))
                    self.assertEqual(paper[0], "nought" if determinant == () else "value")
                    self.assertTrue(determinant == () or told_apart(field, paper, table))
                except ByNought:
                    pass
                for value in any_values():
                    self.assertIs(takes_determinant(field, table, value), False)
            self.assertGreater(told, 3)
        low, high = ((-1, 1), (1, 1)), ((1, 1), (1, 1))
        self.assertTrue(takes_determinant(SPLIT, ((low,),), ("nought", (high,))))
        self.assertTrue(takes_determinant(SPLIT, ((low,),), ("value", low, (0,), ((ONE,),), ((low,),))))
        self.assertTrue(takes_determinant(SPLIT, ((low, ()), ((), high)), ("value", (), (0, 1), units(SPLIT, 2), ((low, ()), ((), high)))))

    def test_whole_determinants(self):
        self.assertEqual(whole_determinant(((2, 0, 1), (1, 3, 2), (0, 1, 1))), 3)
        self.assertEqual(whole_determinant(((-7,),)), -7)
        self.assertEqual(whole_determinant(((0,),)), 0)
        self.assertEqual(whole_determinant(((0, 1), (1, 0))), -1)
        self.assertEqual(whole_determinant(((2, 4), (1, 2))), 0)
        chance = chances(1)
        for many in (2, 3, 4):
            for _ in range(20):
                table = tuple(tuple(chance.choice((0, 0, 1, -2, chance.randint(-10 ** 6, 10 ** 6))) for _ in range(many)) for _ in range(many))
                fractions = tuple(tuple((number, 1) for number in row) for row in table)
                self.assertEqual((whole_determinant(table), 1), plain_determinant(0, fractions))
        great = tuple(tuple(10 ** 6 if i == j else -10 ** 6 if i < j else 0 for j in range(8)) for i in range(8))
        self.assertEqual(whole_determinant(great), 10 ** 48)
        eight = tuple(tuple(chance.randint(-10 ** 6, 10 ** 6) for _ in range(8)) for _ in range(8))
        fractions = tuple(tuple((number, 1) for number in row) for row in eight)
        self.assertEqual((whole_determinant(eight), 1), determinant_of(0, fractions))
        self.assertIs(type(whole_determinant(((0,),))), int)

    def test_wrong_whole_tables(self):
        wrong = any_values() + [
            (), units_of(9), ((10 ** 6 + 1,),), ((-10 ** 6 - 1,),), ((1, 2),), ((1,), (2,)), ((1, 2), (3,)), [(1,)], ([1],),
            ((True,),), ((1, 2), (3, None)), ((1, 2), (3, (1, 1))), ((1, 2), [3, 4]), (1,), ((),), (((1, 1),),),
        ]
        self.refuses_all(InvalidTable, whole_determinant, (), wrong)
        self.assertEqual(whole_determinant(units_of(8)), 1)
        self.assertEqual(whole_determinant(((10 ** 6, 0), (0, -10 ** 6))), -10 ** 12)

    def test_wrong_tables(self):
        wrong = any_values() + [
            (), ((1, 2),), ((1,), (2,)), ((),), ((), ()), units(5, 13), ((5,),), ((True,),), [(1,)], ([1],), ((1, 2), (3,)), ((1, 2), (3, -1)),
        ]
        for function in (determinant_of, determinant_paper):
            self.refuses_all(InvalidTable, function, (5,), wrong)
            self.refused(InvalidTable, function, 0, (((GREATEST + 1, 1),),))
            self.refused(InvalidTable, function, 0, (((2, 4),),))
            self.refuses_fields(function, None)
        self.refuses_all(InvalidTable, takes_determinant, (5,), wrong, (None,))
        self.refuses_fields(takes_determinant, None, None)
        self.assertEqual(determinant_of(5, units(5, 12)), 1)

    def test_each_name_is_defined_here(self):
        for name in "determinant_of determinant_paper whole_determinant takes_determinant".split():
            self.assertEqual(getattr(determinants, name).__module__, "towerback.determinants")


def units_of(many):
    """Return the table of ones of integers."""
    return tuple(tuple(int(i == j) for j in range(many)) for i in range(many))


if __name__ == "__main__":
    unittest.main()
