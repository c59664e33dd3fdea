"""Points 14 and 75: turns of monic lines over prime fields."""

import unittest

from tests.support import Asks, all_lines, any_values, chances, monic_lines
from towerback import turns
from towerback.errors import InvalidField, InvalidLine, InvalidMonic, InvalidNumber
from towerback.fieldways import is_line
from towerback.lineways import divided_lines, line_times, rest_of_power
from towerback.turns import prime_power, turns_of

NO_PRIMES = [0, 1, 4, -2, 9974, 9983, 10007, ("quot", 5), ("root", 5, (2, 1))]
SIXTEEN = (1,) * 17


class Turns(Asks, unittest.TestCase):
    def test_powers(self):
        for prime, degree, many in ((2, 3, 4), (3, 2, 3), (5, 2, 2)):
            for line in monic_lines(prime, degree):
                for other in all_lines(prime, many):
                    power = (1,)
                    for _ in range(prime):
                        power = line_times(prime, power, other)
                    self.assertEqual(prime_power(prime, line, other), divided_lines(prime, power, line)[1])
        self.assertEqual(prime_power(3, (1, 0, 1), (1, 1)), (1, 2))
        self.assertEqual(prime_power(5, (3, 1), (0, 1)), (2,))
        self.assertEqual(prime_power(5, (3, 1), ()), ())
        self.assertEqual(prime_power(2, SIXTEEN, SIXTEEN), ())
        chance = chances(1)
        for prime in (2, 9973):
            line = tuple(chance.randrange(prime) for _ in range(16)) + (1,)
            other = tuple(chance.randrange(prime) for _ in range(16)) + (1,)
            self.assertEqual(prime_power(prime, line, other), rest_of_power(prime, other, prime, line))

    def test_turns(self):
        for prime, degree in ((2, 1), (2, 4), (3, 3), (5, 2), (7, 1)):
            for line in monic_lines(prime, degree):
                found = turns_of(prime, line, 5)
                self.assertIs(type(found), list)
                for k, turn in enumerate(found):
                    self.assertEqual(turn, rest_of_power(prime, (0, 1), prime ** k, line))
                self.assertEqual(len(found), 6)
                for many in (0, 1, 2):
                    self.assertEqual(turns_of(prime, line, many), found[:many + 1])
        self.assertEqual(turns_of(5, (3, 1), 1), [(2,), (2,)])
        self.assertEqual(turns_of(3, (1, 0, 1), 2), [(0, 1), (0, 2), (0, 1)])
        self.assertEqual(turns_of(2, (0, 1), 0), [()])
        for prime in (2, 9973):
            line = (prime - 1, 1) + (0,) * 14 + (1,)
            found = turns_of(prime, line, 32)
            self.assertEqual(len(found), 33)
            self.assertEqual(found[24], rest_of_power(prime, (0, 1), prime ** 24, line))
            found.clear()
            self.assertEqual(len(turns_of(prime, line, 32)), 33)

    def test_turns_of_lines_that_can_not_be_split(self):
        """x to the power p ** n, less x, is the product of all lines that can't be split, whose degrees divide n."""
        self.assertEqual(turns_of(2, (1, 1, 0, 0, 1), 8)[4], (0, 1))
        self.assertEqual(turns_of(2, (1, 1, 0, 0, 1), 8).count((0, 1)), 3)
        self.assertEqual([k for k, turn in enumerate(turns_of(3, (1, 2, 0, 1), 9)) if turn == (0, 1)], [0, 3, 6, 9])

    def test_wrong_primes(self):
        for value in any_values() + NO_PRIMES:
            self.refused(InvalidField, prime_power, value, None, None)
            self.refused(InvalidField, turns_of, value, None, None)
            self.refused(InvalidField, turns_of, value, (1, 1), 1)

    def test_wrong_lines(self):
        wrong = [value for value in any_values() if not is_line(5, value)] + [(1,) * 18, (1,) * 61, (1, 5), (1, 0), [1, 1], (1, True)]
        for function in (prime_power, turns_of):
            self.refuses_all(InvalidLine, function, (5,), wrong, (None,))
            self.refuses_all(InvalidMonic, function, (5,), [(), (1,), (3,), (1, 2), (1, 0, 3)], (None,))
        self.refuses_all(InvalidLine, prime_power, (5, (1, 1)), wrong)
        self.refuses_all(InvalidNumber, turns_of, (5, (1, 1)), any_values() + [-1, 33])
        self.assertEqual(len(turns_of(2, SIXTEEN, 32)), 33)

    def test_each_name_is_defined_here(self):
        for name in "prime_power turns_of".split():
            self.assertEqual(getattr(turns, name).__module__, "towerback.turns")


if __name__ == "__main__":
    unittest.main()
