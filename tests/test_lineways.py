"""Points 6 and 56: lines."""

import unittest

from tests.reference import field_for
from tests.support import FIELDS, GREATEST, R, SPLIT, X, Asks, any_values, chances, random_line, random_number, trimmed
from towerback import lineways
from towerback.errors import ByNought, InvalidLine, InvalidNumber
from towerback.fieldways import is_line, number_of
from towerback.lineways import common_line, divided_lines, does_divide, line_at, line_minus, line_plus, line_times
from towerback.lineways import monic_line, powered_line, rest_of_power, scaled_line, slope_of

ONE = ((1, 1),)
I = ((0, 1), (1, 1))
TWO_LINES = (line_plus, line_minus, line_times, divided_lines, does_divide, common_line)


class Lines(Asks, unittest.TestCase):
    def test_sums_and_products_are_those_of_plain_arithmetic(self):
        for seed, value in enumerate(FIELDS):
            field, chance = field_for(value), chances(seed)
            lines = Lines_of(field)
            for many in (0, 1, 2, 3, 4):
                one, other = random_line(chance, value, many), random_line(chance, value, 3)
                a, b = lines.read(one), lines.read(other)
                self.assertEqual(line_plus(value, one, other), lines.told(lines.add(a, b)))
                self.assertEqual(line_minus(value, one, other), lines.told(lines.add(a, lines.negative(b))))
                self.assertEqual(line_minus(value, one, one), ())
                self.assertEqual(line_times(value, one, other), lines.told(lines.times(a, b)))
                number = random_number(chance, value)
                self.assertEqual(scaled_line(value, one, number), lines.told(lines.scaled(a, field.read(number))))
                self.assertEqual(line_at(value, one, number), field.told(value_at(field, a, field.read(number))))
                self.assertEqual(slope_of(value, one), lines.told(slope(lines, a)))

    def test_quotients_and_divisors_are_those_of_plain_arithmetic(self):
        for seed, value in enumerate(FIELDS):
            field, chance = field_for(value), chances(seed)
            lines = Lines_of(field)
            sizes = (1, 2, 3, 4) if value in (0, 2, 5, 9973, X, R) else (1, 2)
            for many in sizes:
                one, other, more = (random_line(chance, value, k) for k in (len(sizes), many, 2))
                if not other:
                    continue
                a, b, c = lines.read(one), lines.read(other), lines.read(more)
                quotient, rest = lines.divided(a, b)
                self.assertEqual(divided_lines(value, one, other), (lines.told(quotient), lines.told(rest)))
                self.assertEqual(monic_line(value, other), lines.told(lines.monic(b)))
                self.assertEqual(common_line(value, one, other), lines.told(lines.common(a, b)))
                a, b = lines.times(a, c), lines.times(b, c)
                common = common_line(value, lines.told(a), lines.told(b))
                self.assertEqual(common, lines.told(lines.common(a, b)))
                self.assertTrue(does_divide(value, common, lines.told(a)))
                self.assertIs(does_divide(value, other, one), rest == ())

    def test_powers(self):
        for seed, value in enumerate(FIELDS):
            line = random_line(chances(seed), value, 2)
            power = one = (number_of(value, 1, 1),)
            self.assertEqual(powered_line(value, (), 0), one)
            self.assertEqual(powered_line(value, (), 30), ())
            for k in range(4):
                self.assertEqual(powered_line(value, line, k), power)
                power = line_times(value, power, line)
        self.assertEqual(powered_line(0, ((1, 1), (1, 1)), 30)[:3], ((1, 1), (30, 1), (435, 1)))
        self.assertEqual(len(powered_line(0, ((1, 3), (2, 7)) * 30, 30)), 59 * 30 + 1)
        self.refuses_all(InvalidNumber, powered_line, (0, ONE), any_values() + [-1, 31])
        self.refused(InvalidLine, powered_line, 0, ((0, 1),), 31)

    def test_rests_of_powers(self):
        self.assertEqual(rest_of_power(3, (0, 1), 9, (1, 0, 1)), (0, 1))
        self.assertEqual(rest_of_power(5, (), 0, (1, 1)), (1,))
        self.assertEqual(rest_of_power(5, (), 0, (3,)), ())
        self.assertEqual(rest_of_power(5, (), 7, (1, 1)), ())
        self.assertEqual(rest_of_power(0, ((0, 1), (1, 1)), GREATEST, ((-1, 1), (1, 1))), ONE)
        self.assertEqual(rest_of_power(0, ((0, 1), (1, 1)), GREATEST, ((1, 1), (0, 1), (1, 1))), ONE)
        self.assertEqual(rest_of_power(7, (3, 1), GREATEST, (0, 1)), (pow(3, GREATEST, 7),))
        for seed, value in enumerate(FIELDS):
            chance = chances(seed)
            line, other = random_line(chance, value, 3), random_line(chance, value, 2)
            if other:
                rest = divided_lines(value, powered_line(value, line, 3), other)[1]
                self.assertEqual(rest_of_power(value, line, 3, other), rest)
        self.refused(ByNought, rest_of_power, 5, (1, 1), 2, ())
        self.refuses_all(InvalidNumber, rest_of_power, (5, (1, 1)), any_values() + [-1, GREATEST + 1], ((),))
        wrong = [value for value in any_values() if value != ()]
        self.refuses_all(InvalidLine, rest_of_power, (5,), wrong, (-1, None))
        self.refuses_all(InvalidLine, rest_of_power, (5, (1, 1), 2), wrong)
        self.refused(InvalidNumber, rest_of_power, 5, (1, 1), -1, (0,))

    def test_examples_of_division(self):
        self.assertEqual(divided_lines(5, (), (2, 1)), ((), ()))
        self.assertEqual(divided_lines(5, (1, 2), (1, 2, 3)), ((), (1, 2)))
        self.assertEqual(divided_lines(5, (1, 2), (2,)), ((3, 1), ()))
        self.assertTrue(does_divide(5, (), ()))
        self.assertFalse(does_divide(5, (), (1,)))
        self.assertTrue(does_divide(5, (1, 1), ()))
        self.assertTrue(does_divide(5, (3,), (1, 1)))
        self.assertFalse(does_divide(5, (1, 1), (3,)))
        self.assertEqual(common_line(5, (), ()), ())
        self.assertEqual(common_line(5, (), (2, 2)), (1, 1))
        self.assertEqual(common_line(5, (3,), ()), (1,))
        self.assertEqual(slope_of(5, ()), ())
        self.assertEqual(slope_of(5, (3,)), ())
        self.assertEqual(slope_of(2, (1, 1, 1)), (1,))
        self.assertEqual(line_at(0, (), (3, 1)), (0, 1))
        self.assertEqual(scaled_line(5, (1, 2), 0), ())

    def test_by_nought(self):
        for value in FIELDS:
            one = (number_of(value, 1, 1),)
            self.refused(ByNought, divided_lines, value, one, ())
            self.refused(ByNought, divided_lines, value, (), ())
            self.refused(ByNought, monic_line, value, ())

    def test_roots_of_a_line_that_can_be_split(self):
        low, high = ((-1, 1), (1, 1)), ((1, 1), (1, 1))
        self.assertEqual(line_times(SPLIT, (low,), (high,)), ())
        self.assertEqual(line_times(SPLIT, (low, low), (ONE, high)), (low, low))
        self.assertEqual(scaled_line(SPLIT, (ONE, low), high), (high,))
        self.assertEqual(line_at(SPLIT, ((), low), high), ())
        self.assertEqual(powered_line(SPLIT, (ONE, ((-1, 2), (1, 2))), 2), (ONE, ((-1, 1), (1, 1)), ((1, 2), (-1, 2))))
        self.refused(ByNought, divided_lines, SPLIT, (ONE, ONE), (ONE, low))
        self.refused(ByNought, divided_lines, SPLIT, (ONE,), (ONE, low))
        self.refused(ByNought, divided_lines, SPLIT, (), (high,))
        self.assertEqual(divided_lines(SPLIT, (low, low), (ONE, ONE)), ((low,), ()))
        for function in (common_line, does_divide):
            try:
                function(SPLIT, (low,), (ONE, high, ONE))
            except ByNought:
                pass

    def test_divisors_with_roots_of_a_line_that_can_be_split(self):
        """What is told is right with each of both roots, 1 and -1, in the root's place."""
        for bottom in (0, 5, X):
            one, nought = number_of(bottom, 1, 1), number_of(bottom, 0, 1)
            field, told = ("root", bottom, (number_of(bottom, -1, 1), nought, one)), 0
            chance = chances(6)
            for turn in range(60):
                lines = [random_line(chance, field, k) for k in (4, 3, 2)]
                if turn % 2:
                    lines = [line_times(field, lines[0], lines[2]), line_times(field, lines[1], lines[2])]
                try:
                    common = common_line(field, lines[0], lines[1])
                except ByNought:
                    continue
                told += 1
                for root in (one, number_of(bottom, -1, 1)):
                    images = [trimmed(bottom, [line_at(bottom, part, root) for part in line]) for line in lines[:2] + [common]]
                    self.assertEqual(common_line(bottom, images[0], images[1]), images[2])
                    self.assertEqual(len(common), len(images[2]))
            self.assertGreater(told, 5)

    def test_divisors_that_numbers_in_the_place_of_unknowns_do_not_show(self):
        """A divisor whose last number is nought wherever an unknown is a number of the prime field."""
        great = 2 ** 61 - 1
        for field, number in ((0, number_of(0, great, 1)), (0, number_of(0, 1, great)), (("quot", 2), ((0, 1, 1), (1,))),
                              (("quot", 2), ((1,), (0, 1, 1))), (("quot", ("quot", 2)), ((((0, 1, 1), (1,)),), (((1,), (1,)),))),
                              (("quot", ("quot", 2)), ((((1,), (0, 1, 1)),), (((1,), (1,)),))),
                              (("quot", ("quot", 2)), ((((1,), (1,)),), (((1,), (0, 1, 1)), ((1,), (1,))))),
                              (("root", ("quot", 2), (((1,), (1,)),) * 3), (((0, 1, 1), (1,)),)),
                              (("root", ("quot", 2), (((1,), (1,)),) * 3), (((1,), (0, 1, 1)),))):
            one = number_of(field, 1, 1)
            more = [(one, one), (one, one, one), (one, one, one, one)]
            for divisor in ((one, number), (number, one), (one, one, number), (one, number, one)):
                for first in more:
                    for second in more:
                        common = line_times(field, divisor, common_line(field, first, second))
                        told = common_line(field, line_times(field, divisor, first), line_times(field, divisor, second))
                        self.assertEqual(told, monic_line(field, common))

    def test_divisors_that_the_first_values_do_not_tell(self):
        """Lines whose values at the first point have more in common than the lines."""
        one, x = (1,), (0, 1)
        whole = [((-6, 13, -9, 2), (0, -3, -1, 2)), ((-9, 15, -12, 4), (-3, 5, 4, -4)), ((-9, 9, 1, -1), (3, 8, -3)),
                 ((0, -2, 3, -3), (0, -3, 2, 1)), ((-3, 3, -1, 1), (-1, 2, 1, -2))]
        pairs = [(0, *(tuple((number, 1) for number in line) for line in pair)) for pair in whole]
        mod = [(((), (0, 0, 1), one, (1, 0, 1)), ((), (0, 1, 1), one, one)),
               (((0, 0, 1, 1), (1, 0, 1), (1, 0, 1, 0, 1), (1, 0, 1, 0, 1)), ((0, 0, 0, 0, 1), (0, 0, 0, 1, 1), (1, 1, 0, 0, 1), (1, 1, 0, 1, 1))),
               (((0, 1, 1), (1, 1, 0, 1), (0, 1, 1, 1), (0, 0, 0, 1, 1)), ((1, 1), (0, 0, 1), (1, 1), (0, 0, 1))),
               (((), x, one), ((), (0, 1, 1), x, one))]
        pairs += [(("quot", 2), *(tuple((part, one) for part in line) for line in pair)) for pair in mod]
        for value, first, second in pairs:
            lines = Lines_of(field_for(value))
            told = lines.told(lines.common(lines.read(first), lines.read(second)))
            self.assertEqual(common_line(value, first, second), told)
            self.assertEqual(common_line(value, second, first), told)

    def test_divisors_of_longer_lines(self):
        chance = chances(9)
        for field in (0, X, ("quot", X), 5, ("quot", 5)):
            for many in (2, 3, 4):
                divisor, one, other = (random_line(chance, field, many) for _ in range(3))
                if not divisor:
                    continue
                one, other = line_times(field, divisor, one), line_times(field, divisor, other)
                common = common_line(field, one, other)
                self.assertTrue(does_divide(field, divisor, common))
                self.assertTrue(does_divide(field, common, one) and does_divide(field, common, other))
                if common:
                    left = [divided_lines(field, line, common)[0] for line in (one, other)]
                    self.assertEqual(common_line(field, *left), (number_of(field, 1, 1),))

    def test_lines_at_their_length(self):
        self.assertEqual(len(line_times(0, ((1, 2),) * 61, ((1, 3),) * 61)), 121)
        self.refused(InvalidLine, line_times, 0, ((1, 2),) * 62, ONE)
        self.refused(InvalidLine, line_times, 0, ONE, ((1, 2),) * 62)
        self.refused(InvalidLine, slope_of, 2, (1,) * 62)
        self.assertEqual(slope_of(2, (1,) * 61), (1, 0) * 29 + (1,))
        self.refused(InvalidLine, slope_of, 0, ((GREATEST + 1, 1),))

    def test_wrong_lines(self):
        for field, good in ((0, I), (5, (1, 3)), (X, ((ONE, ONE),)), (R, (I,))):
            wrong = [value for value in any_values() if not is_line(field, value)]
            for function in TWO_LINES:
                self.refuses_all(InvalidLine, function, (field,), wrong, (good,))
                self.refuses_all(InvalidLine, function, (field, good), wrong)
            for function in (slope_of, monic_line):
                self.refuses_all(InvalidLine, function, (field,), wrong)
            for function in (scaled_line, line_at, powered_line):
                self.refuses_all(InvalidLine, function, (field,), wrong, (None,))
        for function in (scaled_line, line_at):
            self.refuses_all(InvalidNumber, function, (0, I), any_values() + [(2, 4)])
            self.refuses_all(InvalidNumber, function, (5, (1, 1)), any_values() + [5, -1])
        self.refused(InvalidLine, divided_lines, 5, (0,), ())

    def test_wrong_fields(self):
        for function in TWO_LINES + (scaled_line, line_at, powered_line):
            self.refuses_fields(function, None, None)
        for function in (slope_of, monic_line):
            self.refuses_fields(function, None)
        self.refuses_fields(rest_of_power, None, None, None)

    def test_each_name_is_defined_here(self):
        for function in TWO_LINES + (scaled_line, line_at, powered_line, slope_of, monic_line, rest_of_power):
            self.assertEqual(function.__module__, "towerback.lineways")
            self.assertIs(getattr(lineways, function.__name__), function)


def Lines_of(field):
    """Return the lines over a plain field."""
    from tests.reference import Lines as PlainLines
    return PlainLines(field)


def value_at(field, line, number):
    """Return the value of a plain line at a number."""
    found = field.zero
    for part in reversed(line):
        found = field.add(field.times(found, number), part)
    return found


def slope(lines, line):
    """Return the derivative of a plain line."""
    found = [sum_of(lines.field, part, k) for k, part in enumerate(line)][1:]
    return lines.trimmed(found)


def sum_of(field, number, many):
    """Return so many times a plain number."""
    found = field.zero
    for _ in range(many):
        found = field.add(found, number)
    return found


if __name__ == "__main__":
    unittest.main()
