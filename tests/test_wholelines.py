"""Points 18 and 81: whole lines."""

import itertools
import math
import unittest
from fractions import Fraction

from tests.support import GREATEST, Asks, any_values, chances
from tests.wholes_by_trial import does_divide, no_wholes, product_of, value_at
from towerback import wholelines
from towerback.errors import InvalidLine, InvalidNumber, InvalidWhole
from towerback.fieldways import is_line
from towerback.wholelines import cleared_line, content_of, primitive_of, whole_at, whole_divided, whole_plus, whole_times

LINES = [(), (1,), (-1,), (6,), (-6,), (0, 1), (6, -4), (2, 4, 6), (0, 0, -3), (1, 2, 3), (-1, 0, 1), (GREATEST,) * 13, (-7,) * 13]


class WholeLines(Asks, unittest.TestCase):
    def test_contents(self):
        chance = chances(81)
        for _ in range(200):
            line = tuple(chance.randint(-9, 9) * chance.choice((1, 6, 35)) for _ in range(chance.randint(0, 5)))
            line += (chance.choice((-30, -1, 1, 12)),)
            content = content_of(line)
            self.assertEqual(abs(content), math.gcd(*line))
            self.assertEqual(content > 0, line[-1] > 0)
            part = primitive_of(line)
            self.assertEqual(product_of([part], content), line)
            self.assertEqual(content_of(part), 1)
        self.assertEqual(content_of(()), 0)
        self.assertEqual([content_of((-6,)), primitive_of((-6,)), primitive_of((0, 0, -4))], [-6, (1,), (0, 0, 1)])
        self.assertEqual(primitive_of((-GREATEST,) * 13), (1,) * 13)

    def test_products_of_primitive_lines(self):
        """The product of two primitive whole lines is primitive."""
        lines = [line for line in itertools.product(range(-2, 4), repeat=3) if line[-1] and content_of(line) == 1]
        for one, other in itertools.combinations(lines[::3], 2):
            self.assertEqual(content_of(whole_times(one, other)), 1)

    def test_sums_and_products(self):
        for one, other in itertools.product(LINES, repeat=2):
            total = whole_plus(one, other)
            self.assertTrue(total == () or total[-1] != 0)
            for number in range(-3, 20):
                self.assertEqual(value_at(total, number), value_at(one, number) + value_at(other, number))
            product = whole_times(one, other)
            self.assertEqual(product, product_of([one, other]) if one and other else ())
        self.assertEqual(whole_plus((1, 2, 3), (1, -2, -3)), (2,))
        self.assertEqual(whole_plus((1, 2), (-1, -2)), ())
        # What is returned may be greater than what can be handed in.
        self.assertEqual(len(whole_times((1,) * 13, (GREATEST,) * 13)), 25)

    def test_values(self):
        for line in LINES:
            for number in (0, 1, -1, 2, -7, GREATEST, -GREATEST):
                self.assertEqual(whole_at(line, number), value_at(line, number))
        self.assertEqual(whole_at((), 5), 0)

    def test_quotients(self):
        for line, other in itertools.product(LINES, repeat=2):
            if other == ():
                self.refused(InvalidWhole, whole_divided, line, other)
                continue
            found = whole_divided(line, other)
            if found is None:
                self.assertFalse(line == () or does_divide(other, line))
            else:
                self.assertEqual(product_of([found, other]) if found else (), line)
            if line and len(line) + len(other) <= 14 and max(map(abs, line)) < 10 ** 9:
                self.assertEqual(whole_divided(product_of([line, other]), other) if other[-1] < 99 else line, line)
        self.assertIsNone(whole_divided((1, 0, 2), (1, 1)))
        self.assertIsNone(whole_divided((2, 4), (4,)))
        self.assertEqual(whole_divided((2, 4), (-2,)), (-1, -2))
        self.assertEqual(whole_divided((), (5, 1)), ())
        self.assertIsNone(whole_divided((1,), (5, 1)))

    def test_cleared_lines(self):
        chance = chances(82)
        for _ in range(100):
            numbers = [Fraction(chance.randint(-9, 9), chance.randint(1, 12)) for _ in range(chance.randint(0, 6))]
            numbers.append(Fraction(chance.choice((-6, 1, 5)), chance.choice((1, 4, 15))))
            line = tuple((part.numerator, part.denominator) for part in numbers)
            number, whole = cleared_line(line)
            self.assertEqual([Fraction(*number) * part for part in whole], numbers)
            self.assertEqual((math.gcd(*whole), whole[-1] > 0), (1, True))
            self.assertEqual(Fraction(*number), Fraction(Fraction(*number).numerator, number[1]))
        self.assertEqual(cleared_line(((1, 2), (-1, 3))), ((-1, 6), (-3, 2)))
        self.assertEqual(cleared_line(((-5, 7),)), ((-5, 7), (1,)))
        long = ((1, GREATEST),) * 60 + ((1, GREATEST - 1),)
        self.assertEqual(cleared_line(long)[0], (1, GREATEST * (GREATEST - 1)))

    def test_wrong_arguments(self):
        for function in (content_of, primitive_of):
            self.refuses_all(InvalidWhole, function, (), no_wholes())
        self.refused(InvalidWhole, primitive_of, ())
        for function in (whole_plus, whole_times, whole_divided):
            self.refuses_all(InvalidWhole, function, (), no_wholes(), (None,))
            self.refuses_all(InvalidWhole, function, ((1, 2),), no_wholes())
        self.refuses_all(InvalidWhole, whole_at, (), no_wholes(), (None,))
        self.refuses_all(InvalidNumber, whole_at, ((1, 2),), any_values() + [GREATEST + 1, -GREATEST - 1])
        lines = [value for value in any_values() if not is_line(0, value)] + [((1, 1),) * 62, ((0, 1),), ((2, 2),), (1, 2)]
        self.refuses_all(InvalidLine, cleared_line, (), lines)
        self.refused(InvalidWhole, cleared_line, ())
        self.assertEqual(content_of((GREATEST,) * 13), GREATEST)

    def test_each_name_is_defined_here(self):
        for name in "content_of primitive_of whole_plus whole_times whole_at whole_divided cleared_line".split():
            self.assertEqual(getattr(wholelines, name).__module__, "towerback.wholelines")


if __name__ == "__main__":
    unittest.main()
