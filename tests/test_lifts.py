"""Points 20 and 83: good primes, parts and their lifts."""

import itertools
import unittest

from tests.support import GREATEST, Asks, any_values, chances, changed
from tests.wholes_by_trial import no_wholes, product_of
from towerback import lifts
from towerback.errors import InvalidLift, InvalidNumber, InvalidWhole
from towerback.lifts import is_good_prime, is_lift, lift_cofactors, lifted_parts, mod_parts
from towerback.lineways import common_line, line_minus, line_plus, line_times, scaled_line, slope_of
from towerback.modfactors import is_unsplit

PRIMES = [2, 3, 5, 7, 11, 13, 97, 9973]
# Primitive whole lines with the unknown.
LINES = [
    (1, 2), (0, 1), (5, 3), (1, 5, 6), (1, 0, 1), (1, 0, 0, 0, 1), (1, 2, 1), (-4, 0, 0, 1), (3, 0, -7, 0, 2), (0, -1, 0, 1),
    (576, 0, -960, 0, 352, 0, -40, 0, 1), (-1,) + (0,) * 11 + (1,), tuple(range(1, 13)) + (1,), (1, GREATEST), (1,) + (GREATEST,) * 12,
]
NOT_PRIMITIVE = [(), (1,), (-1,), (2, 4), (1, -1), (6, 0, 3), (-1, 0, -1), (7,)]


def mod(prime, line):
    """Return a whole line as a line over a prime field."""
    numbers = [number % prime for number in line]
    while numbers and not numbers[-1]:
        numbers.pop()
    return tuple(numbers)


def is_plainly_good(line, prime):
    """Tell whether a prime is good for a line, by the words of the document."""
    if line[-1] % prime == 0:
        return False
    return len(common_line(prime, mod(prime, line), slope_of(prime, mod(prime, line)))) == 1


class Lifts(Asks, unittest.TestCase):
    def test_good_primes(self):
        for line in LINES:
            for prime in PRIMES + [9967, 101]:
                self.assertIs(is_good_prime(line, prime), is_plainly_good(line, prime))
            for value in any_values() + [0, 1, 4, 9, -3, 10007, 9974, 49]:
                self.assertIs(is_good_prime(line, value), False)
        # Primes that divide the last number, or the discriminant.
        self.assertEqual([p for p in PRIMES if is_good_prime((1, 5, 6), p)], [5, 7, 11, 13, 97, 9973])
        self.assertEqual([p for p in PRIMES if is_good_prime((-5, 0, 1), p)], [3, 7, 11, 13, 97, 9973])
        self.assertFalse(any(is_good_prime((1, 2, 1), p) for p in PRIMES))
        self.assertIs(is_good_prime((1, 2), 3), True)
        self.assertIs(is_good_prime((1, 2), 2), False)
        self.assertIs(is_good_prime((1, 0, 1), True), False)

    def test_parts_and_cofactors(self):
        for line, prime in itertools.product(LINES, PRIMES):
            if not is_good_prime(line, prime):
                for function in (mod_parts, lift_cofactors):
                    self.refused(InvalidLift, function, line, prime)
                continue
            parts = mod_parts(line, prime)
            product = (line[-1] % prime,)
            for part in parts:
                self.assertTrue(is_unsplit(prime, part))
                product = line_times(prime, product, part)
            self.assertEqual(product, mod(prime, line))
            self.assertEqual(list(parts), sorted(parts))
            cofactors = lift_cofactors(line, prime)
            total = ()
            for at, (part, cofactor) in enumerate(zip(parts, cofactors)):
                self.assertLess(len(cofactor), len(part))
                for k, other in enumerate(parts):
                    if k != at:
                        cofactor = line_times(prime, cofactor, other)
                total = line_plus(prime, total, cofactor)
            self.assertEqual((total, len(cofactors)), ((1,), len(parts)))

    def test_lifts(self):
        for line, prime in itertools.product(LINES, PRIMES):
            if not is_good_prime(line, prime):
                self.refused(InvalidLift, lifted_parts, line, prime, 1)
                self.refused(InvalidLift, is_lift, line, prime, 1, None)
                continue
            self.assertEqual(lifted_parts(line, prime, 1), mod_parts(line, prime))
            for power in (1, 2, 3, 4, 5, 7, 31):
                found = lifted_parts(line, prime, power)
                modulus = prime ** power
                product = product_of(found, line[-1])
                self.assertEqual([a % modulus for a in product], [a % modulus for a in line])
                self.assertTrue(all(0 <= number < modulus for part in found for number in part))
                self.assertEqual([part[-1] for part in found], [1] * len(found))
                self.assertEqual(tuple(mod(prime, part) for part in found), mod_parts(line, prime))
                self.assertIs(is_lift(line, prime, power, found), True)
                if len(found) > 1 and found != found[::-1]:
                    self.assertIs(is_lift(line, prime, power, found[::-1]), False)

    def test_there_is_just_one_lift(self):
        for line, prime, power in (((1, 5, 6), 5, 2), ((1, 0, 1), 5, 2), ((-7, 0, 1), 3, 3), ((1, 1, 2), 3, 2), ((0, 2, 3), 5, 2)):
            found = lifted_parts(line, prime, power)
            modulus, taken = prime ** power, []
            for numbers in itertools.product(range(modulus), repeat=len(line) - 1):
                value, rest = [], numbers
                for part in found:
                    value.append(rest[:len(part) - 1] + (1,))
                    rest = rest[len(part) - 1:]
                if is_lift(line, prime, power, tuple(value)):
                    taken.append(tuple(value))
            self.assertEqual(taken, [found])

    def test_great_powers(self):
        for line, prime in (((1, 0, 1), 5), (product_of([(k, 1) for k in range(1, 13)]), 9973), ((3, 0, -7, 0, 2), 13)):
            found = lifted_parts(line, prime, 2000)
            modulus = prime ** 2000
            self.assertEqual([a % modulus for a in product_of(found, line[-1])], [a % modulus for a in line])
            self.assertIs(is_lift(line, prime, 2000, found), True)
            less = tuple(tuple(number % prime ** 1999 for number in part) for part in found)
            self.assertEqual(lifted_parts(line, prime, 1999), less)
            self.refused(InvalidNumber, lifted_parts, line, prime, 2001)
            self.refused(InvalidNumber, is_lift, line, prime, 2001, found)

    def test_judge(self):
        for line, prime, power in (((1, 5, 6), 5, 3), ((1, 2), 3, 4), ((1, 0, 0, 0, 1), 17, 2), ((1, 0, 0, 0, 1), 3, 3)):
            found = lifted_parts(line, prime, power)
            self.judges(is_lift, (line, prime, power), found)
            modulus = prime ** power
            beyond = tuple((part[0] + modulus,) + part[1:] for part in found)
            below = tuple((part[0] - modulus,) + part[1:] for part in found)
            for value in (beyond, below, found + ((1,),), tuple(list(part) for part in found)):
                self.assertIs(is_lift(line, prime, power, value), False)
        self.judges(is_lift, ((-1, 2), 3, 1), ((1, 1),))
        for value in changed(mod_parts((0, 1, 1), 2)):
            self.assertIs(is_lift((0, 1, 1), 2, 1, value), False)

    def test_wrong_arguments(self):
        for value in no_wholes() + NOT_PRIMITIVE:
            self.refused(InvalidWhole, is_good_prime, value, None)
            self.refused(InvalidWhole, mod_parts, value, None)
            self.refused(InvalidWhole, lift_cofactors, value, 4)
            self.refused(InvalidWhole, lifted_parts, value, None, None)
            self.refused(InvalidWhole, is_lift, value, None, None, None)
        primes = any_values() + [0, 1, 4, -5, 10007, 2, 3]
        for function in (mod_parts, lift_cofactors):
            self.refuses_all(InvalidLift, function, ((1, 5, 6),), primes)
        self.refuses_all(InvalidLift, lifted_parts, ((1, 5, 6),), primes, (None,))
        self.refuses_all(InvalidLift, is_lift, ((1, 5, 6),), primes, (0, None))
        self.refuses_all(InvalidNumber, lifted_parts, ((1, 5, 6), 5), any_values() + [0, -1, 2001])
        self.refuses_all(InvalidNumber, is_lift, ((1, 5, 6), 5), any_values() + [0, -1, 2001], (None,))

    def test_sums_mod_a_prime(self):
        """The difference of a lift's part and the part is nought mod the prime."""
        line = (3, 0, -7, 0, 2)
        for part, lift in zip(mod_parts(line, 13), lifted_parts(line, 13, 6)):
            self.assertEqual(line_minus(13, scaled_line(13, mod(13, lift), 1), part), ())

    def test_each_name_is_defined_here(self):
        for name in "is_good_prime mod_parts lift_cofactors lifted_parts is_lift".split():
            self.assertEqual(getattr(lifts, name).__module__, "towerback.lifts")


if __name__ == "__main__":
    unittest.main()
