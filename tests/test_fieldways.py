"""Points 4, 5, 54 and 55: fields and numbers."""

import unittest

from tests.reference import field_for
from tests.support import FIELDS, GREATEST, R, SPLIT, X, Asks, any_values, chances, deep_field, deep_value, random_line
from tests.support import random_number
from towerback import fieldways
from towerback.errors import ByNought, InvalidField, InvalidLine, InvalidNumber
from towerback.fieldways import inverse_of, is_field, is_line, is_number, negative_of, number_minus, number_of
from towerback.fieldways import number_plus, number_power, number_times, quotient_of

I = ((0, 1), (1, 1))
ONE = ((1, 1),)


def bulk(many):
    """Return a number that is made of so many tuples and integers, a root's number with roots' numbers in it."""
    for rows in range(1, 61):
        fractions, left = divmod(many - 1 - rows, 3)
        if left == 0 and rows <= fractions <= 60 * rows:
            counts = [fractions // rows + (k < fractions % rows) for k in range(rows)]
            return tuple(((1, 1),) * count for count in counts)
    raise AssertionError(many)


def count_of(value):
    """Return how many tuples and integers a value is made of."""
    return 1 + sum(map(count_of, value)) if isinstance(value, tuple) else 1


class Fields(Asks, unittest.TestCase):
    def test_what_is_a_field(self):
        for value in FIELDS + [SPLIT, 3, 7, 9967, deep_field(6), deep_field(6, "root"), ("root", 0, ((0, 1), (1, 1)))]:
            self.assertIs(is_field(value), True, value)

    def test_what_is_none(self):
        for value in any_values() + [-1, 1, 4, 6, 9, 9972, 9974, 10007, -2, (0,), ("quot", 0, ONE), ("Quot", 0)]:
            self.assertIs(is_field(value), False, value)
        for inner in (1, 4, None, True, False, [0], "0", 9974):
            self.assertIs(is_field(("quot", inner)), False)
            self.assertIs(is_field(("root", inner, ((1, 1), (1, 1)))), False)

    def test_depth(self):
        for kind in ("quot", "root"):
            self.assertTrue(is_field(deep_field(6, kind)))
            self.assertFalse(is_field(deep_field(7, kind)))
        self.assertFalse(is_field(deep_field(50)))

    def test_root_lines(self):
        good = ((2, 3), (0, 1), (1, 1))
        self.assertTrue(is_field(("root", 0, good)))
        self.assertFalse(is_field(("root", 0, good, 1)))
        self.assertFalse(is_field(("root", 0, good, good)))
        for line in ((), ((1, 1),), ((1, 1), (2, 1)), ((2, 4), (1, 1)), list(good), ((1, 1), (1, 1), (0, 1)), (1, 1),
                     ((True, 1), (1, 1)), ((0, 1), (1, True)), None, ((GREATEST + 1, 1), (1, 1)), "ab"):
            self.assertFalse(is_field(("root", 0, line)), line)
        self.assertTrue(is_field(("root", 0, ((GREATEST, 1), (-1, GREATEST), (1, 1)))))
        self.assertTrue(is_field(("root", 3, (2,) * 60 + (1,))))
        self.assertFalse(is_field(("root", 3, (2,) * 61 + (1,))))
        self.assertTrue(is_field(("root", X, (((), ONE), (ONE, ONE)))))
        self.assertFalse(is_field(("root", X, (((), ONE), (((2, 1),), ONE)))))
        self.assertTrue(is_field(("root", R, (I, ONE))))
        self.assertFalse(is_field(("root", R, (ONE, I))))

    def test_numbers_of_0(self):
        for value in ((0, 1), (1, 1), (-3, 2), (GREATEST, 1), (-GREATEST, GREATEST - 1), (1, GREATEST)):
            self.assertIs(is_number(0, value), True, value)
        for value in ((2, 4), (0, 2), (1, 0), (0, 0), (1, -2), (1, 1, 1), (1,), [1, 1], (True, 1), (1, True), 1, 0,
                      (GREATEST + 1, 1), (-GREATEST - 1, 1), (1, GREATEST + 1), ("1", 1), (1, None), ((1, 1), (1, 1))):
            self.assertIs(is_number(0, value), False, value)

    def test_numbers_of_primes(self):
        for prime in (2, 5, 9973):
            self.assertTrue(is_number(prime, 0) and is_number(prime, 1) and is_number(prime, prime - 1))
            for value in (-1, prime, True, False, None, (1,), "1", (1, 1), [0]):
                self.assertIs(is_number(prime, value), False)

    def test_numbers_of_quotients(self):
        one, x, more = ONE, ((0, 1), (1, 1)), ((1, 1), (1, 1))
        for value in (((), one), (one, one), (x, more), (((5, 3),), x), (((-1, 2), (1, 2)), one)):
            self.assertTrue(is_number(X, value), value)
        square = ((1, 1), (2, 1), (1, 1))
        for value in (((), ()), (one, ()), ((), x), (x, x), (square, more), (more, square), (one, ((1, 1), (2, 1))),
                      (one, ((2, 1),)), [one, one], (list(one), one), (one,), (one, one, one), ((), one, ()),
                      (((1, 1), (0, 1)), one), (((2, 2),), one), None, (), (1, 1), ((True, 1), one)):
            self.assertIs(is_number(X, value), False, value)
        self.assertTrue(is_number(("quot", 5), ((4,), (1, 1))))
        self.assertFalse(is_number(("quot", 5), ((4, 0, 1), (1, 1))))
        self.assertFalse(is_number(("quot", R), ((ONE, (), ONE), (I, ONE))))
        self.assertTrue(is_number(("quot", R), ((ONE, (), ONE), (ONE, ONE))))

    def test_numbers_of_roots(self):
        for value in ((), ONE, I, ((0, 1), (-7, 3))):
            self.assertTrue(is_number(R, value), value)
        for value in (((0, 1),), ((1, 1), (0, 1)), ((1, 1),) * 3, [], ((2, 2),), None, 0, (1, 1), (True,)):
            self.assertIs(is_number(R, value), False, value)
        self.assertTrue(is_number(("root", 5, (1, 1)), (4,)))
        self.assertFalse(is_number(("root", 5, (1, 1)), (4, 1)))

    def test_lines(self):
        for value in ((), ONE, I, ((1, 1),) * 61, ((GREATEST, 1),)):
            self.assertIs(is_line(0, value), True)
        for value in ((1,), ((0, 1),), ((1, 1), (0, 1)), [(1, 1)], ((1, 1),) * 62, ((GREATEST + 1, 1),), ([1, 1],), None):
            self.assertIs(is_line(0, value), False, value)
        self.assertFalse(is_line(5, (3, 0)))
        self.assertTrue(is_line(5, (0, 3)))
        for value in any_values():
            for field in (0, 5, X, R):
                self.assertIs(is_number(field, value), False, (field, value))
                if value != ():
                    self.assertIs(is_line(field, value), False, (field, value))

    def test_long_lines_within_numbers(self):
        long, longer = ((1, 1),) * 61, ((1, 1),) * 62
        self.assertTrue(is_number(X, (long, ONE)))
        self.assertFalse(is_number(X, (longer, ONE)))
        self.assertFalse(is_line(X, ((ONE, longer),)))

    def test_20000_tuples_and_integers(self):
        field = ("root", ("root", ("root", 0, ((1, 1),) * 61), (ONE,) * 61), ((ONE,),) * 61)
        self.assertTrue(is_field(field))
        for many in (300, 15000, 19999, 20000, 20001, 20002, 20500):
            value = (bulk(10000), bulk(many - 10001)) if many > 10100 else (bulk(many - 1),)
            self.assertEqual(count_of(value), many)
            self.assertIs(is_number(field, value), many <= 20000, many)
            self.assertIs(is_line(field[1], value), many <= 20000, many)

    def test_fields_are_looked_at_first(self):
        for function in (is_number, is_line, negative_of, inverse_of):
            self.refuses_fields(function, None)
        for function in (number_plus, number_minus, number_times, number_power, number_of, quotient_of):
            self.refuses_fields(function, None, None)


class Numbers(Asks, unittest.TestCase):
    def test_number_of(self):
        self.assertEqual(number_of(0, 6, -4), (-3, 2))
        self.assertEqual(number_of(0, 0, -4), (0, 1))
        self.assertEqual(number_of(7, 1, 3), 5)
        self.assertEqual(number_of(7, -GREATEST, 1), -GREATEST % 7)
        self.assertEqual(number_of(X, 6, -4), (((-3, 2),), ONE))
        self.assertEqual(number_of(X, 0, 3), ((), ONE))
        self.assertEqual(number_of(R, 1, 2), ((1, 2),))
        self.assertEqual(number_of(R, 0, 2), ())
        self.assertEqual(number_of(("quot", 3), 3, 2), ((), (1,)))
        self.assertEqual(number_of(SPLIT, GREATEST, GREATEST), ONE)

    def test_number_of_by_nought(self):
        for field, under in ((0, 0), (7, 0), (7, 14), (X, 0), (R, 0), (("quot", 5), 10), (("root", 5, (2, 0, 1)), -5)):
            self.refused(ByNought, number_of, field, 1, under)
            self.refused(ByNought, number_of, field, 0, under)

    def test_number_of_wrong_integers(self):
        wrong = any_values() + [GREATEST + 1, -GREATEST - 1, (1, 1)]
        self.refuses_all(InvalidNumber, number_of, (0,), wrong, (1,))
        self.refuses_all(InvalidNumber, number_of, (0, 1), wrong)
        self.refused(InvalidNumber, number_of, 0, True, 0)
        self.refused(InvalidNumber, number_of, 7, None, 7)

    def test_quotient_of(self):
        self.assertEqual(quotient_of(0, ((-1, 1), (0, 1), (1, 1)), ((2, 1), (2, 1))), (((-1, 2), (1, 2)), ONE))
        self.assertEqual(quotient_of(0, (), ((2, 1), (2, 1))), ((), ONE))
        self.assertEqual(quotient_of(5, (4, 0, 1), (2, 2)), ((2, 3), (1,)))
        self.assertEqual(quotient_of(R, (ONE, (), ONE), (I, ONE)), ((((0, 1), (-1, 1)), ONE), (ONE,)))
        self.refused(ByNought, quotient_of, 0, ONE, ())
        self.refused(ByNought, quotient_of, 0, (), ())

    def test_quotient_of_wrong_values(self):
        wrong = [value for value in any_values() + [((1, 1), (0, 1)), ((1, 1),) * 62] if value != ()]
        self.refuses_all(InvalidLine, quotient_of, (0,), wrong, (ONE,))
        self.refuses_all(InvalidLine, quotient_of, (0, ONE), wrong)
        self.refused(InvalidLine, quotient_of, 0, ((0, 1),), ())
        self.assertEqual(quotient_of(deep_field(5), (), (one_of(deep_field(5)),))[0], ())
        self.refused(InvalidField, quotient_of, deep_field(6), (), (one_of(deep_field(6)),))
        self.refused(InvalidField, quotient_of, deep_field(6), None, None)

    def test_sums_and_products_are_those_of_plain_arithmetic(self):
        for seed, value in enumerate(FIELDS):
            field, chance = field_for(value), chances(seed)
            for _ in range(6):
                one, other = random_number(chance, value), random_number(chance, value)
                self.assertTrue(is_number(value, one))
                a, b = field.read(one), field.read(other)
                self.assertEqual(number_plus(value, one, other), field.told(field.add(a, b)))
                self.assertEqual(number_minus(value, one, other), field.told(field.add(a, field.negative(b))))
                self.assertEqual(number_times(value, one, other), field.told(field.times(a, b)))
                self.assertEqual(negative_of(value, one), field.told(field.negative(a)))
                if a != field.zero:
                    self.assertEqual(inverse_of(value, one), field.told(field.inverse(a)))

    def test_quotients_are_those_of_plain_arithmetic(self):
        for seed, value in enumerate([0, 2, 5, X, R, ("quot", 3)]):
            field, chance = field_for(("quot", value)), chances(seed)
            for _ in range(8):
                over, under = random_line(chance, value, 4), random_line(chance, value, 4)
                if under:
                    told = field.told(field.settled(field.lines.read(over), field.lines.read(under)))
                    self.assertEqual(quotient_of(value, over, under), told)

    def test_powers(self):
        for value in FIELDS:
            one = number_of(value, 1, 1)
            nought = number_of(value, 0, 1)
            self.assertEqual(number_power(value, nought, 0), one)
            self.assertEqual(number_power(value, nought, 30), nought)
            number = random_number(chances(3), value)
            power = one
            for k in range(5):
                self.assertEqual(number_power(value, number, k), power)
                power = number_times(value, power, number)
        self.assertEqual(number_power(0, (2, 3), 30), (2 ** 30, 3 ** 30))
        self.assertEqual(number_power(9973, 5, 30), pow(5, 30, 9973))
        self.refuses_all(InvalidNumber, number_power, (0, (1, 1)), any_values() + [-1, 31, (1, 1)])
        self.refused(InvalidNumber, number_power, 0, (2, 2), 31)

    def test_what_has_no_inverse(self):
        for value in FIELDS:
            self.refused(ByNought, inverse_of, value, number_of(value, 0, 1))

    def test_a_root_of_a_line_that_can_be_split(self):
        self.assertEqual(number_times(SPLIT, ((-1, 1), (1, 1)), ((1, 1), (1, 1))), ())
        self.refused(ByNought, inverse_of, SPLIT, ((-1, 1), (1, 1)))
        self.refused(ByNought, inverse_of, SPLIT, ((1, 1), (1, 1)))
        self.refused(ByNought, inverse_of, SPLIT, ())
        self.assertEqual(inverse_of(SPLIT, ((2, 1), (1, 1))), ((2, 3), (-1, 3)))
        self.refused(ByNought, inverse_of, ("root", 2, (1, 0, 1)), (1, 1))
        self.assertEqual(inverse_of(("root", 2, (1, 0, 1)), (0, 1)), (0, 1))
        over = ("root", R, (ONE, (), ONE))
        self.refused(ByNought, inverse_of, over, (I, ONE))
        self.assertEqual(inverse_of(over, ((), ONE)), ((), ((-1, 1),)))
        above = ("root", X, (((), ONE), ((), ONE), (ONE, ONE)))
        self.refused(ByNought, inverse_of, above, (((), ONE), (ONE, ONE)))

    def test_wrong_numbers(self):
        for field, good in ((0, (1, 1)), (5, 3), (X, (ONE, ONE)), (R, I)):
            wrong = [value for value in any_values() if not is_number(field, value)]
            self.refuses_all(InvalidNumber, negative_of, (field,), wrong)
            self.refuses_all(InvalidNumber, inverse_of, (field,), wrong)
            self.refuses_all(InvalidNumber, number_power, (field,), wrong, (None,))
            self.refuses_all(InvalidNumber, number_power, (field,), wrong, (2,))
            for function in (number_plus, number_minus, number_times):
                self.refuses_all(InvalidNumber, function, (field,), wrong, (good,))
                self.refuses_all(InvalidNumber, function, (field, good), wrong)

    def test_great_numbers_can_be_returned_but_not_handed_in(self):
        great = number_times(0, (GREATEST, 1), (GREATEST, 1))
        self.assertEqual(great, (GREATEST * GREATEST, 1))
        self.refused(InvalidNumber, negative_of, 0, great)

    def test_each_name_is_defined_here(self):
        for name in ("is_field is_number is_line number_of quotient_of number_plus number_minus number_times negative_of"
                     " inverse_of number_power").split():
            self.assertEqual(getattr(fieldways, name).__module__, "towerback.fieldways")

    def test_deep_values(self):
        self.assertIs(is_number(X, deep_value(100)), False)
        self.assertIs(is_line(X, (deep_value(99),)), False)


def one_of(field):
    """Return the one of a field."""
    return number_of(field, 1, 1)


if __name__ == "__main__":
    unittest.main()
