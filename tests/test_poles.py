"""Points 31 and 96: real roots, poles, and integrals between fractions."""

import unittest
from fractions import Fraction

from tests.support import GREATEST, X, Asks, any_values, chances, random_line
from tests.test_rational import GO, GX, NOUGHT, things
from tests.test_towers import rational
from towerback import poles
from towerback.errors import InvalidBounds, InvalidLine, InvalidNumber, TooMany
from towerback.fieldways import is_line, is_number, number_minus, number_times, quotient_of
from towerback.lineways import common_line, divided_lines, line_at, line_times, powered_line, scaled_line, slope_of
from towerback.poles import definite, poles_between, roots_between, sign_chain
from towerback.rational import integral_of


def plain_chain(line):
    """Return the sign chain of a line, word by word."""
    first = divided_lines(0, line, common_line(0, line, slope_of(0, line)))[0]
    chain = [[Fraction(*number) for number in line] for line in (first, slope_of(0, first))]
    while True:
        rest, other = list(chain[-2]), chain[-1]
        while len(rest) >= len(other):
            many, start = rest[-1] / other[-1], len(rest) - len(other)
            rest = [number - many * other[at - start] if at >= start else number for at, number in enumerate(rest)][:-1]
        while rest and not rest[-1]:
            rest.pop()
        if not rest:
            return tuple(tuple((number.numerator, number.denominator) for number in line) for line in chain)
        chain.append([-number for number in rest])


def changes(chain, number):
    """Return how often the signs change along a chain at a number."""
    values = [sum(Fraction(*part) * Fraction(*number) ** at for at, part in enumerate(line)) for line in chain]
    values = [value > 0 for value in values if value]
    return sum(a != b for a, b in zip(values, values[1:]))


def line_with(roots, more=()):
    """Return the product of the lines with such roots, and of others."""
    line = GO
    for root in roots:
        line = line_times(0, line, ((-root.numerator, root.denominator), (1, 1)))
    for other in more:
        line = line_times(0, line, other)
    return line


class Poles(Asks, unittest.TestCase):
    def test_sign_chains(self):
        chance = chances(31)
        for many in range(2, 9):
            for _ in range(20):
                line = random_line(chance, 0, many)
                if chance.random() < 0.3:
                    line = line_times(0, line, random_line(chance, 0, 2))
                if chance.random() < 0.3:
                    line = powered_line(0, line, 2) if len(line) < 5 else line
                if chance.random() < 0.3:
                    line = tuple(part if at % 2 or at == len(line) - 1 else (0, 1) for at, part in enumerate(line))
                if len(line) > 1:
                    self.assertEqual(sign_chain(line), plain_chain(line))
        self.assertEqual(sign_chain(GX), (GX, GO))
        self.assertEqual(sign_chain(((3, 1), (-2, 5))), (((3, 1), (-2, 5)), ((-2, 5),)))
        # A root twice: the line by its divisor keeps its last number.
        self.assertEqual(sign_chain(((2, 1), (4, 1), (2, 1))), (((2, 1), (2, 1)), ((2, 1),)))
        self.assertEqual(sign_chain(((0, 1),) * 5 + ((-3, 1),)), (((0, 1), (-3, 1)), ((-3, 1),)))
        self.assertEqual(sign_chain(((1, 1), (0, 1), (0, 1), (0, 1), (1, 1))), plain_chain(((1, 1), (0, 1), (0, 1), (0, 1), (1, 1))))

    def test_known_roots(self):
        chance = chances(96)
        apart = [((1, 1), (0, 1), (1, 1)), ((5, 1), (1, 1), (1, 1)), ((7, 2), (0, 1), (0, 1), (0, 1), (1, 1))]
        for _ in range(60):
            roots = [Fraction(chance.randint(-6, 6), chance.choice((1, 1, 2, 3))) for _ in range(chance.randint(0, 5))]
            more = chance.sample(apart, chance.randint(0, 2))
            line = scaled_line(0, line_with(roots, more), (chance.choice((-7, 1, 2)), 5))
            if len(line) < 2:
                continue
            for _ in range(4):
                low = chance.choice(roots + [Fraction(chance.randint(-9, 8), 2)])
                high = chance.choice([root for root in roots if root > low] + [low + Fraction(chance.randint(1, 9), 4)])
                wished = len({root for root in roots if low <= root <= high})
                bounds = (low.numerator, low.denominator), (high.numerator, high.denominator)
                self.assertEqual(roots_between(line, *bounds), wished, (line, bounds))
                self.assertEqual(poles_between(quotient_of(0, GO, line), *bounds), wished)
                chain = plain_chain(line)
                at_low = line_at(0, line, bounds[0]) == (0, 1)
                self.assertEqual(changes(chain, bounds[0]) - changes(chain, bounds[1]) + at_low, wished)

    def test_bounds_that_are_roots(self):
        line = line_with([Fraction(k) for k in (0, 1, 1, 2, 3)])
        for low in range(-1, 4):
            for high in range(low + 1, 5):
                self.assertEqual(roots_between(line, (low, 1), (high, 1)), len([k for k in range(4) if low <= k <= high]))
        self.assertEqual(roots_between(GX, (0, 1), (1, 1)), 1)
        self.assertEqual(roots_between(GX, (-1, 1), (0, 1)), 1)
        self.assertEqual(roots_between(GX, (1, GREATEST), (1, 1)), 0)
        self.assertEqual(roots_between(GX, (-GREATEST, 1), (GREATEST, 1)), 1)
        square = ((-2, 1), (0, 1), (1, 1))
        self.assertEqual([roots_between(square, (0, 1), (2, 1)), roots_between(square, (-2, 1), (2, 1)), roots_between(square, (0, 1), (1, 1))], [1, 2, 0])
        self.assertEqual(roots_between(square, (-1414213, 10 ** 6), (1414217, 10 ** 6)), 1)
        self.assertEqual(roots_between(powered_line(0, square, 6), (1, 1), (2, 1)), 1)
        wilkinson = line_with([Fraction(k) for k in range(1, 21)])
        self.assertEqual(roots_between(wilkinson, (1, 2), (41, 2)), 20)
        great = tuple((chances(k).randint(-GREATEST, GREATEST), 1) for k in range(13))
        self.assertEqual(roots_between(great, (-GREATEST, 1), (GREATEST, 1)) >= 0, True)

    def test_poles(self):
        self.assertEqual(poles_between(NOUGHT, (0, 1), (1, 1)), 0)
        self.assertEqual(poles_between((GX, GO), (-1, 1), (1, 1)), 0)
        self.assertEqual(poles_between((GO, GX), (-1, 1), (1, 1)), 1)
        self.assertEqual(poles_between((GO, GX), (0, 1), (1, 1)), 1)
        self.assertEqual(poles_between((GO, powered_line(0, GX, 5)), (-1, 1), (0, 1)), 1)
        self.assertEqual(poles_between((GO, ((-2, 1), (0, 1), (1, 1))), (0, 1), (1, 1)), 0)
        self.assertEqual(poles_between((GO, ((1, 1), (0, 1), (1, 1))), (-9, 1), (9, 1)), 0)

    def test_definite(self):
        for thing in things(30):
            for low, high in (((0, 1), (1, 1)), ((-7, 3), (9, 2)), ((21, 2), (1000, 7))):
                found, many = definite(thing, low, high), poles_between(thing, low, high)
                if many:
                    self.assertEqual(found, ("poles", many))
                    continue
                part, sums = integral_of(thing)
                number = number_minus(0, value_of(part, high), value_of(part, low))
                self.assertEqual(found, ("logs", number, sums) if sums else ("rational", number))
        self.assertEqual(definite((GO, ((0, 1), (0, 1), (1, 1))), (1, 1), (2, 1)), ("rational", (1, 2)))
        self.assertEqual(definite((GO, GX), (-1, 1), (1, 1)), ("poles", 1))
        self.assertEqual(definite((GO, GX), (1, 1), (2, 1)), ("logs", (0, 1), ((((-1, 1), (1, 1)), (rational(0, 1),)),)))
        self.assertEqual(definite(NOUGHT, (-GREATEST, 1), (GREATEST, 1)), ("rational", (0, 1)))
        self.assertEqual(definite((((0, 1), (0, 1), (3, 1)), GO), (-1, 2), (2, 1)), ("rational", (65, 8)))

    def test_degrees(self):
        thirteen = ((2, 1),) + ((0, 1),) * 12 + ((1, 1),)
        with self.assertRaises(TooMany) as caught:
            definite((GO, thirteen), (0, 1), (1, 1))
        self.assertEqual(caught.exception.limit, 12)
        self.assertEqual(definite((GO, thirteen), (-2, 1), (1, 1)), ("poles", 1))
        self.assertEqual(poles_between((GO, thirteen), (0, 1), (1, 1)), 0)
        self.assertEqual(roots_between(((-1, 1),) + ((0, 1),) * 59 + ((1, 1),), (-2, 1), (2, 1)), 2)

    def test_wrong_arguments(self):
        lines = [value for value in any_values() if not is_line(0, value)] + [(), GO, ((0, 1),), ((1, 1), (0, 1)), (1, 1), ((1, 1),) * 62]
        self.refuses_all(InvalidLine, sign_chain, (), lines)
        self.refuses_all(InvalidLine, roots_between, (), lines, (None, None))
        numbers = [value for value in any_values() if not is_number(X, value)] + [(), ((), ()), (GX, GX)]
        self.refuses_all(InvalidNumber, poles_between, (), numbers, (None, None))
        self.refuses_all(InvalidNumber, definite, (), numbers, ((1, 1), (0, 1)))
        wrong = [value for value in any_values() if not is_number(0, value)] + [(2, 4), (1, 0), (1, -1), (GREATEST + 1, 1), 0, [0, 1]]
        for function, first in ((roots_between, GX), (poles_between, (GO, GX)), (definite, (GO, GX))):
            self.refuses_all(InvalidBounds, function, (first,), wrong, ((1, 1),))
            self.refuses_all(InvalidBounds, function, (first, (0, 1)), wrong)
            self.refuses_all(InvalidBounds, function, (first,), wrong, (None,))
            for low, high in (((1, 1), (1, 1)), ((1, 1), (0, 1)), ((1, 2), (1, 3)), ((-1, 3), (-1, 2)), ((GREATEST, 1), (-GREATEST, 1))):
                self.refused(InvalidBounds, function, first, low, high)

    def test_each_name_is_defined_here(self):
        for name in "sign_chain roots_between poles_between definite".split():
            self.assertEqual(getattr(poles, name).__module__, "towerback.poles")


def value_of(thing, number):
    """Return the value of a rational function at a fraction."""
    over, under = line_at(0, thing[0], number), line_at(0, thing[1], number)
    return number_times(0, over, (under[1], under[0]) if under[0] > 0 else (-under[1], -under[0]))


if __name__ == "__main__":
    unittest.main()
