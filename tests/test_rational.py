"""Points 30 and 95: integrals of rational functions."""

import unittest

from tests.sums_by_trial import ROOTS, TWELVE, plain_derivative, random_sum
from tests.support import GREATEST, X, Asks, any_values, chances, changed, random_line, random_number
from tests.test_towers import rational
from towerback import rational as module
from towerback.errors import InvalidNumber, TooMany
from towerback.fieldways import is_number, number_plus, number_times, quotient_of
from towerback.hermite import hermite
from towerback.lineways import line_times, powered_line
from towerback.logarithms import logarithms
from towerback.parted import parts_of
from towerback.rational import integral_of, is_integral
from towerback.rawsums import derived_sums
from towerback.rawways import plus
from towerback.rootlifts import spread_line, with_root
from towerback.rootsums import sums_derived
from towerback.towers import derivative_of

GX, GO = ((0, 1), (1, 1)), ((1, 1),)
NOUGHT = ((), GO)


def things(many, most=4):
    """Return rational functions, some of them with powers in the under."""
    chance, found = chances(95), []
    while len(found) < many:
        over, under = random_line(chance, 0, 4), ()
        while under == ():
            under = random_line(chance, 0, chance.randint(1, most))
        part = random_line(chance, 0, 2) or GO
        found.append(quotient_of(0, over, line_times(0, under, powered_line(0, part, chance.choice((0, 1, 2, 3))))))
    return found


class Rational(Asks, unittest.TestCase):
    def test_integrals(self):
        """The derivative of the integral is the function, and it is in the one form."""
        for thing in things(60):
            rational_part, sums = value = integral_of(thing)
            triple = hermite((), thing)
            total = number_plus(X, derivative_of((), rational_part), sums_derived((), sums))
            self.assertEqual(total, thing)
            self.assertEqual(total, number_plus(X, derivative_of((), rational_part), plain_derivative((), sums)))
            line = number_plus(X, rational_part, number_times(X, triple[0], rational(-1)))
            self.assertEqual((line[1], line[0][:1]), (GO, ((0, 1),) if line[0] else ()))
            self.assertEqual(sums, logarithms((), triple[1][0], triple[1][1]) if triple[1][0] else ())
            self.assertIs(is_integral(thing, value), True)

    def test_planted_integrals(self):
        """Of a line without constant, a proper thing, and logarithms of monic lines, the integral is told again."""
        chance, done = chances(96), 0
        while done < 30:
            sums = []
            for line in sorted(chance.sample(ROOTS[:5], chance.randint(0, 2))):
                with_it = with_root(0, line)
                many = chance.randint(1, 2)
                numbers = [random_number(chance, with_it, 1) for _ in range(many)]
                sums.append((line, spread_line(0, line, tuple(numbers) + (GO,))))
            line = random_line(chance, 0, 3)
            proper = parts_of((), random_number(chance, X, 3))[2]
            total = number_plus(X, (((0, 1),) + line if line else (), GO), proper)
            thing = number_plus(X, derivative_of((), total), sums_derived((), tuple(sums)))
            triple = hermite((), thing)
            if len(triple[1][1]) > 13:
                continue
            done += 1
            found, told = integral_of(thing)
            self.assertEqual(found, total)
            self.assertEqual(sums_derived((), told), sums_derived((), tuple(sums)))
            if [root for root, _ in told] == [root for root, _ in sums]:
                self.assertEqual(sum(len(thing[0][0]) - 1 for _, thing in told) > 0, bool(told))

    def test_known_integrals(self):
        line = ((0, 1), (0, 1), (1, 2))
        self.assertIs(is_integral((GX, GO), ((line, GO), ())), True)
        self.assertIs(is_integral((GX, GO), (line, GO)), False)
        self.assertEqual(integral_of(NOUGHT), (NOUGHT, ()))
        self.assertEqual(integral_of((GX, GO)), ((((0, 1), (0, 1), (1, 2)), GO), ()))
        self.assertEqual(integral_of((GO, GX)), (NOUGHT, ((((-1, 1), (1, 1)), (rational(0, 1),)),)))
        self.assertEqual(integral_of((GO, ((0, 1), (0, 1), (1, 1)))), ((((-1, 1),), GX), ()))
        self.assertEqual(integral_of((GO, ((1, 1), (0, 1), (1, 1)))), (NOUGHT, ((((1, 4), (0, 1), (1, 1)), (rational(0, 1), rational(2))),)))
        thing = (GO, ((1, 1), (0, 1), (2, 1), (0, 1), (1, 1)))
        wished = (((0, 1), (1, 2)), ((1, 1), (0, 1), (1, 1))), ((((1, 16), (0, 1), (1, 1)), (rational(0, 1), rational(4))),)
        self.assertEqual(integral_of(thing), wished)

    def test_degrees(self):
        twelve, thirteen = TWELVE, ((2, 1),) + ((0, 1),) * 12 + ((1, 1),)
        value = integral_of((GO, twelve))
        self.assertEqual(derived_sums((), value[1]), (GO, twelve))
        self.assertIs(is_integral((GO, twelve), value), True)
        with self.assertRaises(TooMany) as caught:
            integral_of((GO, thirteen))
        self.assertEqual(caught.exception.limit, 12)
        # The limit is for the plain part's under alone.
        long = powered_line(0, ((2, 1), (1, 1), (0, 1), (1, 1)), 8)
        value = integral_of((random_line(chances(5), 0, 6), long))
        self.assertIs(is_integral((random_line(chances(5), 0, 6), long), value), True)
        derived = derivative_of((), (GO, thirteen))
        self.assertEqual(integral_of(derived), ((GO, thirteen), ()))
        self.assertEqual(integral_of((((1, 1),) * 61, GO))[0][0][-1], (1, 61))

    def test_great_numbers(self):
        for thing in ((((GREATEST, 1), (1, 7)), ((GREATEST - 1, 1), (0, 1), (3, GREATEST), (1, 1))), (((1, GREATEST),), ((-GREATEST, 1), (1, 1)))):
            value = integral_of(thing)
            self.assertIs(is_integral(thing, value), True)
            self.assertEqual(number_plus_any(derivative_of((), value[0]), derived_sums((), value[1])), thing)

    def test_judge(self):
        for thing in [NOUGHT, (GX, GO), (GO, GX), (GO, ((1, 1), (0, 1), (1, 1)))] + things(6, 3):
            value = integral_of(thing)
            for other in any_values():
                self.assertIs(is_integral(thing, other), False)
                self.assertIs(is_integral(thing, (value[0], other)), False)
                self.assertIs(is_integral(thing, (other, value[1])), False)
            for other in changed(value):
                # A constant may be another one: in the rational part, and as what a thing is multiplied with.
                if is_integral(thing, other):
                    self.assertEqual(len(other), 2)
                    rational_part, sums = other
                    self.assertEqual(derivative_of((), rational_part), derivative_of((), value[0]))
                    self.assertEqual(sums_derived((), sums), sums_derived((), value[1]))
            constant = (number_plus(X, value[0], rational(7)), value[1])
            self.assertIs(is_integral(thing, constant), True)

    def test_any_values_that_fit(self):
        """Sums may be in any form, with numbers of any size."""
        great = 10 ** 119
        one = (GO, GX)
        log, half = ((-1, 1), (1, 1)), ((-1, 2), (1, 1))
        self.assertIs(is_integral(one, (rational(great), ((log, (rational(0, great),)),))), True)
        self.assertIs(is_integral(one, (NOUGHT, ((half, (rational(0, 0, 1),)),))), True)
        self.assertIs(is_integral(one, (NOUGHT, ((half, (rational(0, 1),)), (half, (rational(0, 3),))))), True)
        self.assertIs(is_integral(one, (NOUGHT, ((((1, 1), (1, 1)), ((GO, GX),)),))), True)
        self.assertIs(is_integral(one, (NOUGHT, ((((great, 1), (1, 1)), (rational(0, 1),)),))), False)
        constant = (((-great, 1), (1, 1)), (rational(great),))
        self.assertIs(is_integral(one, (NOUGHT, ((log, (rational(0, 1),)), constant))), True)
        self.assertIs(is_integral(one, (NOUGHT, ((log, (rational(0, 1),)),) + (constant,) * 15)), True)
        self.assertIs(is_integral(one, (NOUGHT, ((log, (rational(0, 1),)),) + (constant,) * 16)), False)
        self.assertIs(is_integral((GX, GO), ((((7, 1), (0, 1), (1, 2)), GO), ())), True)
        zero = (((0, 1), (1, 1)), (rational(0, 1),))
        self.assertIs(is_integral(NOUGHT, (NOUGHT, (zero,))), False)
        self.assertIs(is_integral(NOUGHT, (NOUGHT, ((((-1, 1), (0, 1), (1, 1)), (rational(3),)),))), False)
        chance = chances(97)
        for line in ROOTS[:4]:
            root_sum = random_sum(chance, (), line)
            thing = sums_derived((), (root_sum,))
            self.assertIs(is_integral(thing, (NOUGHT, (root_sum,))), True)
            self.assertIs(is_integral(thing, (rational(1, 1), (root_sum,))), False)

    def test_wrong_arguments(self):
        wrong = [value for value in any_values() if not is_number(X, value)] + [(), ((), ()), (GX, ((0, 1), (2, 1))), (GX, GX), ((1, 1), 1)]
        self.refuses_all(InvalidNumber, integral_of, (), wrong)
        self.refuses_all(InvalidNumber, is_integral, (), wrong, (None,))
        self.refused(InvalidNumber, integral_of, rational(GREATEST + 1))

    def test_each_name_is_defined_here(self):
        for name in "integral_of is_integral".split():
            self.assertEqual(getattr(module, name).__module__, "towerback.rational")


def number_plus_any(one, other):
    """Return the sum of two rational functions of any size."""
    return plus(X, one, other)


if __name__ == "__main__":
    unittest.main()
