"""Points 9 and 65: systems of linear equations."""

import itertools
import unittest

from tests.reference import field_for
from tests.support import FIELDS, GREATEST, R, SPLIT, SPLITS, X, Asks, all_rows, any_values, chances, random_number
from tests.test_tables import ONE, plain_product, random_table, units
from towerback import systems
from towerback.errors import ByNought, InvalidRow, InvalidTable
from towerback.fieldways import number_of
from towerback.systems import is_solution, kernel_of, solved_paper, takes_solved
from towerback.tables import reduced_paper, takes_reduced


def comes_to(field, table, row):
    """Return what a table comes to with a row, by plain arithmetic."""
    if not row:
        return tuple(number_of(field, 0, 1) for _ in table)
    return tuple(part[0] for part in plain_product(field, table, tuple((number,) for number in row)))


def lead_of(field, row):
    """Return the index of the first number of a row that is not nought."""
    return next(k for k, number in enumerate(row) if number != number_of(field, 0, 1))


class Systems(Asks, unittest.TestCase):
    def check_kernel(self, field, table):
        """Ask that the rows of kernel_of are as told."""
        rows, columns = kernel_of(field, table), len(table[0])
        nought, one = number_of(field, 0, 1), number_of(field, 1, 1)
        leads = [lead_of(field, row) for row in reduced_paper(field, table)[0]]
        free = [at for at in range(columns) if at not in leads]
        self.assertIs(type(rows), tuple)
        self.assertEqual(len(rows), len(free))
        for row, at in zip(rows, free):
            self.assertEqual([row[k] for k in free], [one if k == at else nought for k in free])
            self.assertEqual(set(comes_to(field, table, row)), {nought})
        return rows, free

    def check(self, field, table, right):
        """Ask that a system's paper is as told; return its word."""
        rows, free = self.check_kernel(field, table)
        paper = solved_paper(field, table, right)
        self.assertIs(takes_solved(field, table, right, paper), True)
        nought = number_of(field, 0, 1)
        if paper[0] == "none":
            self.assertEqual(len(paper), 2)
            wide = tuple(row + (number,) for row, number in zip(table, right))
            self.assertEqual(plain_product(field, (paper[1],), wide)[0], (nought,) * len(table[0]) + (number_of(field, 1, 1),))
        else:
            word, solution, kernel, reduced = paper
            self.assertEqual((word, kernel), ("solution", rows))
            self.assertIs(takes_reduced(field, table, reduced), True)
            self.assertEqual(comes_to(field, table, solution), right)
            self.assertTrue(all(solution[at] == nought for at in free))
            self.assertIs(is_solution(field, table, right, solution), True)
        return paper[0]

    def test_systems_over_all_fields(self):
        for seed, field in enumerate(FIELDS):
            chance, words = chances(seed), set()
            for rows, columns in ((1, 1), (2, 2), (2, 3), (3, 2), (1, 3), (3, 1)):
                table = random_table(chance, field, rows, columns)
                words.add(self.check(field, table, random_table(chance, field, 1, rows)[0]))
                row = tuple(random_number(chance, field) for _ in range(columns))
                self.assertEqual(self.check(field, table, comes_to(field, table, row)), "solution")
                self.assertIs(is_solution(field, table, comes_to(field, table, row), row), True)
            right = (number_of(field, 0, 1), number_of(field, 1, 1))
            words.add(self.check(field, table[:1] * 2, right))
            self.assertEqual(words, {"solution", "none"}, field)
            self.assertEqual(self.check(field, ((number_of(field, 0, 1),) * 2,) * 2, (number_of(field, 0, 1),) * 2), "solution")

    def test_all_small_systems(self):
        """The solutions are those found by trying all rows."""
        for prime, rows, columns in ((2, 2, 2), (2, 2, 3), (2, 3, 2), (3, 2, 2), (5, 1, 2), (3, 1, 3)):
            for numbers in all_rows(prime, rows * columns):
                table = tuple(numbers[at * columns:(at + 1) * columns] for at in range(rows))
                for right in all_rows(prime, rows):
                    found = [row for row in all_rows(prime, columns) if comes_to(prime, table, row) == right]
                    self.assertEqual(found, [row for row in all_rows(prime, columns) if is_solution(prime, table, right, row)])
                    paper = solved_paper(prime, table, right)
                    self.assertTrue(takes_solved(prime, table, right, paper))
                    self.assertEqual(paper[0], "solution" if found else "none")
                    if found:
                        self.assertEqual(sorted(found), sorted(sums(prime, paper[1], paper[2])))

    def test_all_papers_that_there_is_none(self):
        for table, right in ((((1, 2), (2, 1)), (1, 1)), (((1, 1), (1, 1), (0, 0)), (1, 2, 0)), (((0, 0),), (2,))):
            for row in all_rows(3, len(table)):
                wide = tuple(numbers + (number,) for numbers, number in zip(table, right))
                told = plain_product(3, (row,), wide)[0] == (0, 0, 1)
                self.assertIs(takes_solved(3, table, right, ("none", row)), told)
            self.assertEqual(solved_paper(3, table, right)[0], "none")

    def test_tables_without_columns(self):
        self.assertEqual(solved_paper(3, ((),), (2,)), ("none", (2,)))
        for field in FIELDS:
            nought, one = number_of(field, 0, 1), number_of(field, 1, 1)
            self.assertEqual(kernel_of(field, ((), ())), ())
            self.assertEqual(solved_paper(field, ((), ()), (nought, nought)), ("solution", (), (), ((), (), ((), ()))))
            self.assertIs(takes_solved(field, ((), ()), (nought, nought), ("solution", (), (), ((), (), ((), ())))), True)
            self.assertIs(is_solution(field, ((), ()), (nought, nought), ()), True)
            self.assertIs(is_solution(field, ((), ()), (nought, one), ()), False)
            self.assertEqual(self.check(field, ((), ()), (nought, one)), "none")

    def test_kernels(self):
        self.assertEqual(kernel_of(5, ((1, 2), (2, 4))), ((3, 1),))
        self.assertEqual(kernel_of(5, ((0, 0),)), ((1, 0), (0, 1)))
        self.assertEqual(kernel_of(5, ((1, 0), (0, 1))), ())
        self.assertEqual(kernel_of(0, (((1, 1), (0, 1), (2, 1), (0, 1)),)), (((0, 1), (1, 1), (0, 1), (0, 1)), ((-2, 1), (0, 1), (1, 1), (0, 1)), ((0, 1), (0, 1), (0, 1), (1, 1))))

    def test_large_systems(self):
        chance = chances(3)
        for prime in (2, 9973):
            table = tuple(tuple(chance.randrange(prime) for _ in range(40)) for _ in range(39))
            table = table + (tuple(sum(numbers) % prime for numbers in zip(table[0], table[5])),)
            row = tuple(chance.randrange(prime) for _ in range(40))
            right = comes_to(prime, table, row)
            self.assertEqual(self.check(prime, table, right), "solution")
            self.assertEqual(self.check(prime, table, right[:-1] + ((right[-1] + 1) % prime,)), "none")
        table = random_table(chance, 0, 20, 20)
        self.check(0, table, random_table(chance, 0, 1, 20)[0])
        great = tuple(tuple((chance.randint(-GREATEST, GREATEST), 1) for _ in range(4)) for _ in range(3))
        self.assertEqual(self.check(0, great, ((1, GREATEST), (1, 3), (0, 1))), "solution")
        self.assertEqual(self.check(0, great[:2] + great[1:2], ((1, GREATEST), (1, 3), (0, 1))), "none")

    def test_papers_that_others_may_tell(self):
        table, right = ((1, 2), (2, 4), (0, 0)), (3, 1, 0)
        for reduced in ((((1, 2),), ((1, 0, 0),), ((1,), (2,), (0,))), (((1, 2),), ((0, 3, 0),), ((1,), (2,), (0,))), (((1, 2),), ((4, 1, 2),), ((1,), (2,), (0,)))):
            self.assertIs(takes_solved(5, table, right, ("solution", (3, 0), ((3, 1),), reduced)), True)
            for solution, rows in (((1, 1), ((3, 1),)), ((3, 0), ((1, 2),)), ((3, 0), ()), ((3, 0), ((3, 1), (3, 1))), ((3, 1), ((3, 1),)), ((3,), ((3, 1),)), ((3, False), ((3, 1),)), ((3, 0), ((3, True),))):
                self.assertIs(takes_solved(5, table, right, ("solution", solution, rows, reduced)), False)
        for row in ((3, 1, 0), (3, 1, 4)):
            self.assertIs(takes_solved(5, table, (3, 2, 0), ("none", row)), True)
        for row in ((1, 2, 0), (3, 1), (3, 1, 0, 0), (0, 0, 0), (3, True, 0), [3, 1, 0]):
            self.assertIs(takes_solved(5, table, (3, 2, 0), ("none", row)), False)
        self.assertTrue(is_solution(5, table, right, (1, 1)))
        for value in any_values() + [[1, 1], (1, 2), (True, 1), (6, 1), (1, 1, 0), (1,)]:
            self.assertIs(is_solution(5, table, right, value), False)

    def test_spoilt_papers(self):
        for field, table, right in (
            (7, ((2, 1, 3), (1, 4, 5)), (1, 6)), (7, ((2, 1, 3), (1, 4, 5)), (1, 5)),
            (0, (((1, 2), (2, 3)), ((3, 1), (4, 1))), ((1, 1), (6, 1))), (0, (((1, 2), (2, 3)), ((3, 1), (4, 1))), ((1, 1), (5, 1))),
            (X, ((((), ONE), (((0, 1), (1, 1)), ONE)),), ((ONE, ONE),)), (R, ((((0, 1), (1, 1)), ONE),), (ONE,)),
        ):
            paper = solved_paper(field, table, right)
            self.judges(takes_solved, (field, table, right), paper)

    def test_numbers_of_any_size(self):
        great = (10 ** 119, 1)
        table, right = (((1, 1), (1, 1)),), ((3, 1),)
        self.assertIs(is_solution(0, table, right, ((3 - 10 ** 119, 1), great)), True)
        self.assertIs(is_solution(0, table, right, ((2 - 10 ** 119, 1), great)), False)
        self.assertIs(takes_solved(0, (((0, 1),), ((0, 1),)), ((1, 1), (0, 1)), ("none", ((1, 1), great))), True)

    def test_roots_of_a_line_that_can_be_split(self):
        for seed, field in enumerate(SPLITS):
            chance, told = chances(seed), 0
            for turn in range(40):
                table = random_table(chance, field, 2, 2)
                right = random_table(chance, field, 1, 2)[0]
                if turn % 2:
                    right = comes_to(field, table, right)
                for value in any_values():
                    self.assertIs(takes_solved(field, table, right, value), False)
                    self.assertIs(is_solution(field, table, right, value), False)
                try:
                    paper = solved_paper(field, table, right)
                except ByNought:
                    continue
                told += 1
                self.assertTrue(takes_solved(field, table, right, paper))
                if paper[0] == "none":
                    self.assertEqual(turn % 2, 0)
                    self.assertEqual(comes_to(field, tuple(zip(*table)), paper[1]), ((), ()))
                else:
                    self.assertEqual(comes_to(field, table, paper[1]), right)
                    self.assertEqual(paper[2], kernel_of(field, table))
                    for row in paper[2]:
                        self.assertEqual(comes_to(field, table, row), ((), ()))
            self.assertGreater(told, 5)
        low, high = ((-1, 1), (1, 1)), ((1, 1), (1, 1))
        self.assertIs(is_solution(SPLIT, ((low,),), ((),), (high,)), True)

    def test_wrong_arguments(self):
        table = ((1, 2, 3), (4, 0, 1))
        wrong = [value for value in any_values() if value != ((),) * 3]
        wrong += [((1, 2), (3,)), ((1, 5),), ((1, True),), ((),) * 41, ((1,) * 41,), (), [(1,)]]
        self.refuses_all(InvalidTable, kernel_of, (5,), wrong)
        self.refuses_all(InvalidTable, solved_paper, (5,), wrong, (None,))
        for function in (is_solution, takes_solved):
            self.refuses_all(InvalidTable, function, (5,), wrong, (None, None))
            self.refuses_all(InvalidRow, function, (5, table), any_values() + [[1, 2], (1, 5), (1, True), (1,), (1, 2, 3)], (None,))
        self.refuses_all(InvalidRow, solved_paper, (5, table), any_values() + [[1, 2], (1, 5), (1, True), (1,), (1, 2, 3)])
        self.refused(InvalidRow, solved_paper, 0, (((1, 1),),), ((GREATEST + 1, 1),))
        self.refused(InvalidTable, solved_paper, 0, (((2, 2),),), ((2, 2),))
        self.refuses_fields(kernel_of, None)
        self.refuses_fields(solved_paper, None, None)
        self.refuses_fields(is_solution, None, None, None)
        self.refuses_fields(takes_solved, None, None, None)

    def test_each_name_is_defined_here(self):
        for name in "kernel_of solved_paper is_solution takes_solved".split():
            self.assertEqual(getattr(systems, name).__module__, "towerback.systems")


def sums(prime, row, rows):
    """Return a row and all sums of it and of rows times numbers of a prime field."""
    found = []
    for numbers in itertools.product(range(prime), repeat=len(rows)):
        total = list(row)
        for number, other in zip(numbers, rows):
            total = [(a + number * b) % prime for a, b in zip(total, other)]
        found.append(tuple(total))
    return found


if __name__ == "__main__":
    unittest.main()
