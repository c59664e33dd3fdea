"""Points 21 and 84: lots of lifted parts."""

import itertools
import math
import unittest

from tests.support import Asks, any_values
from tests.test_divisorbounds import plain_bound
from tests.test_lifts import LINES, NOT_PRIMITIVE, PRIMES
from tests.wholes_by_trial import does_divide, no_wholes, product_of
from towerback import lots
from towerback.errors import InvalidLift, InvalidLot, InvalidNumber, InvalidWhole
from towerback.lifts import is_good_prime, lifted_parts
from towerback.lots import first_lot, least_power, lot_line, lots_of

EF = (1, 5, 6)


def plain_lots(line, lift):
    """Return the lots that are tried, in order."""
    found = []
    for many in range(1, len(lift)):
        for lot in itertools.combinations(range(len(lift)), many):
            if 2 * sum(len(lift[at]) - 1 for at in lot) <= len(line) - 1:
                found.append(lot)
    return found


def plain_line(line, modulus, lift, lot):
    """Return the line of a lot, word by word."""
    numbers = []
    for number in product_of([lift[at] for at in lot], line[-1]):
        number %= modulus
        numbers.append(number - modulus if 2 * number > modulus else number)
    content = math.gcd(*numbers)
    return tuple(number // (content if numbers[-1] > 0 else -content) for number in numbers)


class Lots(Asks, unittest.TestCase):
    def cases(self):
        """Return lines with good primes, powers and lifts."""
        found = []
        for line, prime in itertools.product(LINES, PRIMES):
            if is_good_prime(line, prime):
                least = least_power(line, prime)
                many = len(lifted_parts(line, prime, 1))
                for power in {1, 2, max(1, least - 1), least, least + 1} if many < 8 else {least}:
                    if power <= 2000:
                        found.append((line, prime, power, lifted_parts(line, prime, power)))
        return found

    def test_least_powers(self):
        for line, prime in itertools.product(LINES, PRIMES):
            if is_good_prime(line, prime):
                power = least_power(line, prime)
                limit = 2 * plain_bound(line) * line[-1]
                self.assertGreater(prime ** power, limit)
                self.assertLessEqual(prime ** (power - 1), limit)
        self.assertEqual(least_power(EF, 5), 4)
        # Degree 1: the bound is the value at the first point.
        self.assertEqual([least_power((0, 1), 2), least_power((0, 1), 3), least_power((1, 2), 5)], [2, 1, 1])

    def test_all_lots(self):
        for line, prime, power, lift in self.cases():
            found = lots_of(line, prime, power, lift)
            self.assertIs(type(found), list)
            self.assertEqual(found, plain_lots(line, lift))
            modulus = prime ** power
            wished = None
            for lot in found:
                told = plain_line(line, modulus, lift, lot)
                if len(lift) < 6 or lot[0] < 2:
                    self.assertEqual(lot_line(line, prime, power, lift, lot), told)
                if wished is None and does_divide(told, line):
                    wished = lot, told
            self.assertEqual(first_lot(line, prime, power, lift), wished, (line, prime, power))
            everything = tuple(range(len(lift)))
            self.assertEqual(lot_line(line, prime, power, lift, ()), (1,))
            self.assertEqual(lot_line(line, prime, power, lift, everything), plain_line(line, modulus, lift, everything))
            if power >= least_power(line, prime) and 2 * max(map(abs, line)) * line[-1] < modulus:
                self.assertEqual(lot_line(line, prime, power, lift, everything), line)

    def test_lots_of_small_powers(self):
        """Also where the power is too small the first lot is the one whose line divides the line."""
        for numbers in itertools.product(range(-3, 4), repeat=3):
            for last in (1, 2, 3, 4):
                line = numbers + (last,)
                for prime in (2, 3, 5, 7):
                    if math.gcd(*line) == 1 and is_good_prime(line, prime):
                        for power in (1, 2):
                            lift = lifted_parts(line, prime, power)
                            told = [plain_line(line, prime ** power, lift, lot) for lot in plain_lots(line, lift)]
                            at = next((at for at, other in enumerate(told) if does_divide(other, line)), None)
                            wished = None if at is None else (plain_lots(line, lift)[at], told[at])
                            self.assertEqual(first_lot(line, prime, power, lift), wished, (line, prime, power))

    def test_halves(self):
        self.assertEqual(lots_of((1, 0, 1), 5, 2, ((7, 1), (18, 1))), [(0,), (1,)])
        line = product_of([(k, 1) for k in (1, 2, 3, 4, 5)])
        lift = lifted_parts(line, 11, 2)
        self.assertEqual(len(lots_of(line, 11, 2, lift)), 5 + 10)
        line = product_of([(k, 1) for k in range(1, 13)])
        lift = lifted_parts(line, 97, 2)
        found = lots_of(line, 97, 2, lift)
        self.assertEqual(len(found), sum(math.comb(12, k) for k in range(1, 7)))
        found.clear()
        self.assertEqual(lots_of(line, 97, 2, lift)[-1], (6, 7, 8, 9, 10, 11))
        self.assertEqual(lots_of((1, 2), 5, 1, lifted_parts((1, 2), 5, 1)), [])
        self.assertIsNone(first_lot((1, 2), 5, 1, lifted_parts((1, 2), 5, 1)))

    def test_lines_taken_half_way(self):
        """A number that is half of an even modulus stays above 0."""
        lift = lifted_parts((1, 1, 1), 2, 1)
        self.assertEqual(lot_line((1, 1, 1), 2, 1, lift, (0,)), (1, 1, 1))
        lift = lifted_parts((2, 3), 2, 2)
        self.assertEqual(lift, ((2, 1),))
        self.assertEqual(lot_line((2, 3), 2, 2, lift, ()), (1,))
        self.assertEqual(lot_line((2, 3), 2, 2, lift, (0,)), (-2, 1))

    def test_wrong_arguments(self):
        lift = lifted_parts(EF, 5, 3)
        for value in no_wholes() + NOT_PRIMITIVE:
            self.refused(InvalidWhole, least_power, value, None)
            self.refused(InvalidWhole, lots_of, value, None, None, None)
            self.refused(InvalidWhole, lot_line, value, 4, None, None, None)
            self.refused(InvalidWhole, first_lot, value, 5, 3, lift)
        for value in any_values() + [0, 1, 4, 2, 3, 10007]:
            self.refused(InvalidLift, least_power, EF, value)
            self.refused(InvalidLift, lots_of, EF, value, None, None)
            self.refused(InvalidLift, lot_line, EF, value, 0, None, None)
            self.refused(InvalidLift, first_lot, EF, value, 3, lift)
        for value in any_values() + [0, -1, 2001]:
            self.refused(InvalidNumber, lots_of, EF, 5, value, None)
            self.refused(InvalidNumber, lot_line, EF, 5, value, lift, None)
            self.refused(InvalidNumber, first_lot, EF, 5, value, None)
        for value in any_values() + [(), lift[::-1], lift[:1], list(lift), lifted_parts(EF, 5, 2)]:
            self.refused(InvalidLift, lots_of, EF, 5, 3, value)
            self.refused(InvalidLift, lot_line, EF, 5, 3, value, None)
            self.refused(InvalidLift, first_lot, EF, 5, 3, value)
        self.refuses_all(InvalidLot, lot_line, (EF, 5, 3, lift), any_values() + [(2,), (1, 0), (0, 0), (-1,), (True,), [0], (0, 1, 2)])
        self.assertEqual(lot_line(EF, 5, 3, lift, (0, 1)), EF)

    def test_each_name_is_defined_here(self):
        for name in "least_power lots_of lot_line first_lot".split():
            self.assertEqual(getattr(lots, name).__module__, "towerback.lots")


if __name__ == "__main__":
    unittest.main()
