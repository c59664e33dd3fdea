"""Points 24 and 88: constants, root lines, and fields with their roots."""

import unittest

from tests.support import FIELDS, GREATEST, SPLITS, Asks, R, X, any_values, chances, random_line
from tests.test_wholefactors import UNSPLIT
from tests.wholes_by_trial import product_of
from towerback import rootlifts
from towerback.errors import InvalidField, InvalidLine, InvalidNumber
from towerback.fieldways import is_field, is_line, is_number, number_of, number_plus, number_times
from towerback.rootlifts import constant_in, constant_of, is_root_line, spread_line, with_root

FQ = ((1, 4), (0, 1), (1, 1))


def bottom(field):
    """Return 0 or the prime of which a field is built."""
    while isinstance(field, tuple):
        field = field[1]
    return field


ZEROS = [field for field in FIELDS + SPLITS if bottom(field) == 0]
FIVE = ("quot", ("quot", ("quot", ("quot", X))))


def monic(line):
    """Return the monic line over 0 of a whole line with a positive last number."""
    return tuple(number_of(0, number, line[-1]) for number in line)


class RootLifts(Asks, unittest.TestCase):
    def test_constants(self):
        for field in ZEROS + [FIVE, ("quot", FIVE)]:
            for number in ((0, 1), (1, 1), (-3, 7), (GREATEST, GREATEST - 1)):
                found = constant_in(field, number)
                self.assertEqual(found, number_of(field, number[0], number[1]))
                self.assertEqual(constant_of(field, found), number)
        self.assertEqual(constant_in(X, (1, 2)), (((1, 2),), ((1, 1),)))

    def test_numbers_that_are_no_constants(self):
        self.assertIsNone(constant_of(X, (((0, 1), (1, 1)), ((1, 1),))))
        self.assertIsNone(constant_of(X, (((1, 1),), ((0, 1), (1, 1)))))
        self.assertIsNone(constant_of(R, ((0, 1), (1, 1))))
        self.assertIsNone(constant_of(R, ((2, 1), (1, 1))))
        self.assertEqual(constant_of(R, ((2, 3),)), (2, 3))
        self.assertEqual(constant_of(R, ()), (0, 1))
        x = ((0, 1), (1, 1)), ((1, 1),)
        one = ((1, 1),), ((1, 1),)
        self.assertIsNone(constant_of(("quot", X), ((x,), (one,))))
        self.assertIsNone(constant_of(("quot", X), ((one,), (x, one))))
        self.assertEqual(constant_of(("quot", X), (((((3, 2),), ((1, 1),)),), (one,))), (3, 2))
        self.assertIsNone(constant_of(("quot", R), ((((0, 1), (1, 1)),), (((1, 1),),))))
        self.assertEqual(constant_of(0, (-5, 3)), (-5, 3))

    def test_root_lines(self):
        for line in UNSPLIT:
            self.assertIs(is_root_line(monic(line)), line != (0, 1))
            for number in (2, -1):
                self.assertIs(is_root_line(tuple((part * number, 1) for part in line)), False)
        for lines in (((1, 1), (1, 1)), ((1, 0, 1), (1, 0, 1)), ((0, 1), (3, 1)), ((1, 2), (1, 0, 3)), ((2, 1), (-3, 1))):
            self.assertIs(is_root_line(monic(product_of(lines))), False)
        for value in any_values() + [(), ((1, 1),), ((0, 1), (1, 1)), ((1, 4), (0, 1), (2, 1)), ((2, 4), (1, 1)), (1, 1), [(1, 4), (1, 1)]]:
            self.assertIs(is_root_line(value), False)
        self.assertIs(is_root_line(FQ), True)
        self.assertIs(is_root_line(((-1, 4), (0, 1), (1, 1))), False)
        self.assertIs(is_root_line(((GREATEST, 1), (1, 1))), True)
        self.assertIs(is_root_line(((GREATEST + 1, 1), (1, 1))), False)
        # Degree 12 and degree 13.
        self.assertIs(is_root_line(((2, 1),) + ((0, 1),) * 11 + ((1, 1),)), True)
        self.assertIs(is_root_line(((2, 1),) + ((0, 1),) * 12 + ((1, 1),)), False)
        great = tuple((GREATEST - 7 * k, GREATEST - k * k - 1) for k in range(12)) + ((1, 1),)
        self.assertIs(is_root_line(tuple(number_of(0, over, under) for over, under in great)), True)

    def test_fields_with_roots(self):
        for field in (0, X, ("quot", X), R, ("root", X, FIELDS[14][2])):
            for line in (FQ, ((-2, 1), (1, 1)), ((2, 3),) + ((0, 1),) * 11 + ((1, 1),)):
                found = with_root(field, line)
                self.assertEqual(found, ("root", field, tuple(number_of(field, over, under) for over, under in line)))
                self.assertIs(is_field(found), True)
        self.assertEqual(with_root(0, FQ), ("root", 0, FQ))
        self.assertIs(is_field(with_root(FIVE, FQ)), True)
        self.refused(InvalidField, with_root, ("quot", FIVE), FQ)
        self.refused(InvalidLine, with_root, ("quot", FIVE), None)

    def test_spread_lines(self):
        self.assertEqual(spread_line(0, FQ, (((0, 1), (2, 1)), ((1, 1),))), ((((0, 1), (1, 1)), ((1, 1),)), (((2, 1),), ((1, 1),))))
        chance = chances(88)
        for field in (0, X, ("quot", X), R):
            for line in (FQ, ((-2, 1), (1, 1)), ((-2, 1), (0, 1), (0, 1), (1, 1))):
                with_it, above = with_root(field, line), with_root(("quot", field), line)
                unknown = (((number_of(field, 0, 1), number_of(field, 1, 1)), (number_of(field, 1, 1),)),)
                for other in [(), (number_of(with_it, 1, 1),)] + [random_line(chance, with_it, 4) for _ in range(4)]:
                    found = spread_line(field, line, other)
                    self.assertIs(is_number(above, found), True)
                    total = ()
                    for number in reversed(other):
                        raised = tuple(((() if part == number_of(field, 0, 1) else (part,)), (number_of(field, 1, 1),)) for part in number)
                        total = number_plus(above, number_times(above, total, unknown), raised)
                    self.assertEqual(found, total)

    def test_fields_that_become_too_deep(self):
        four = ("quot", ("quot", ("quot", X)))
        one = number_of(with_root(four, FQ), 1, 1)
        self.assertIs(is_number(with_root(("quot", four), FQ), spread_line(four, FQ, (one,))), True)
        self.refused(InvalidField, spread_line, FIVE, FQ, (number_of(with_root(FIVE, FQ), 1, 1),))
        # Behind the root line, ahead of the other line.
        self.refused(InvalidLine, spread_line, FIVE, None, None)
        self.refused(InvalidField, spread_line, FIVE, FQ, None)
        self.refused(InvalidLine, spread_line, four, FQ, None)

    def test_wrong_arguments(self):
        no_fields = [2, 9973, ("quot", 5), ("root", 5, (2, 0, 1)), ("quot", ("root", 2, (1, 1, 1))), ("quot", ("quot", FIVE))]
        for function, behind in ((constant_in, (None,)), (constant_of, (None,)), (with_root, (None,)), (spread_line, (None, None))):
            self.refuses_fields(function, *behind)
            self.refuses_all(InvalidField, function, (), no_fields, behind)
        numbers = [value for value in any_values() if not is_number(0, value)] + [(2, 4), (1, 0), (1, -1), (GREATEST + 1, 1), [1, 2]]
        self.refuses_all(InvalidNumber, constant_in, (X,), numbers)
        for field in (0, X, R):
            wrong = [value for value in any_values() if not is_number(field, value)] + [((2, 4),), ((0, 1), (1, 1), (1, 1))]
            self.refuses_all(InvalidNumber, constant_of, (field,), wrong)
        lines = any_values() + [(), ((1, 1),), ((0, 1), (1, 1)), ((-1, 4), (0, 1), (1, 1)), ((1, 1), (2, 1)), ((1, 1),) * 14]
        self.refuses_all(InvalidLine, with_root, (X,), lines)
        self.refuses_all(InvalidLine, spread_line, (X,), lines, (None,))
        with_it = with_root(0, FQ)
        wrong = [value for value in any_values() if not is_line(with_it, value)] + [((1, 1),), ((),), (((1, 1),) * 3,), (((0, 1),),)]
        self.refuses_all(InvalidLine, spread_line, (0, FQ), wrong)

    def test_each_name_is_defined_here(self):
        for name in "constant_in constant_of is_root_line with_root spread_line".split():
            self.assertEqual(getattr(rootlifts, name).__module__, "towerback.rootlifts")


if __name__ == "__main__":
    unittest.main()
