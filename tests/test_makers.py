"""Points 49 and 117: logarithms and exponentials that are let, their parts, and relations."""

import unittest
from fractions import Fraction

from tests.support import GREATEST, X, Asks, any_values, chances
from tests.test_towers import U, rational
from towerback import makers
from towerback.errors import InvalidMaker, TooMany
from towerback.fieldways import inverse_of, is_number, number_of, number_plus, number_power, number_times, quotient_of
from towerback.makers import exp_relation, log_parts, log_relation
from towerback.wholefactors import is_unsplit_whole

ONE, NOUGHT = rational(1), rational()
KY = (((1, 1), (1, 1)), ((0, 1), (1, 1)))
# Whole lines that can't be split.
PRIMES = [(0, 1), (1, 1), (-1, 1), (1, 2), (-3, 2), (1, 0, 1), (-2, 0, 1), (1, 1, 3), (2, 0, 0, 1), (5, -7), (1, 0, 0, 0, 1)]
PRIMES = [line if line[-1] > 0 else tuple(-number for number in line) for line in PRIMES]
NOT_NUMBERS = [value for value in any_values() if not is_number(X, value)] + [(), ((), ()), (U[0], U[0]), rational(GREATEST + 1)]
# Whose logarithm is not let: nought, another last number, a sign, other fractions above and below.
LOG_NOT_LET = [NOUGHT, rational(2), rational(-1), rational(0, 2), rational(0, -1), number_of(X, 1, 2), (((0, 1),) * 2 + ((1, 2),), ((1, 1),)), (((0, 1), (1, 1)), ((1, 2), (1, 1))),
               (((0, 1), (2, 1)), ((1, 1), (1, 1))), (((1, 2), (1, 1)), ((1, 1),)), (((-1, 1),), ((0, 1), (1, 1)))]
EXP_NOT_LET = [ONE, rational(-3), number_of(X, 1, 2), rational(1, 1), KY, (((0, 1), (0, 1), (1, 1)), ((1, 1), (1, 1))), rational(5, 0, 1)]


def whole(line, power=1):
    """Return a whole line as a rational function, to a power."""
    number = rational(*line)
    return number_power(X, number if power >= 0 else inverse_of(X, number), abs(power))


def product_of(rows):
    """Return the product of whole lines to their powers."""
    total = ONE
    for line, power in rows:
        total = number_times(X, total, whole(line, power))
    return total


def some_rows(chance, most=3):
    """Return an ascending tuple of some lines with powers that are not 0."""
    lines = chance.sample(PRIMES, chance.randint(0, most))
    return tuple(sorted((line, chance.choice((-2, -1, 1, 2))) for line in lines))


class Makers(Asks, unittest.TestCase):
    def limited(self, function, *arguments):
        """Ask that a call raises TooMany with the limit 12."""
        with self.assertRaises(TooMany) as caught:
            function(*arguments)
        self.assertEqual(caught.exception.limit, 12)

    def test_parts(self):
        self.assertTrue(all(is_unsplit_whole(line) for line in PRIMES))
        chance = chances(117)
        for _ in range(80):
            rows = some_rows(chance)
            number = product_of(rows)
            if max(map(len, number)) < 14:
                self.assertEqual(log_parts(number), rows)
                self.assertEqual(product_of(log_parts(number)), number)

    def test_known_parts(self):
        self.assertEqual(log_parts(U), (((0, 1), 1),))
        self.assertEqual(log_parts(KY), (((0, 1), -1), ((1, 1), 1)))
        self.assertEqual(log_parts(ONE), ())
        self.assertEqual(log_parts(rational(0, 0, 1)), (((0, 1), 2),))
        self.assertEqual(log_parts(rational(1, 2)), (((1, 2), 1),))
        self.assertEqual(log_parts(rational(-4, 0, 9)), (((-2, 3), 1), ((2, 3), 1)))
        # 1 by 2 x + 1: both fractions are a half.
        self.assertEqual(log_parts((((1, 2),), ((1, 2), (1, 1)))), (((1, 2), -1),))
        self.assertEqual(log_parts((((0, 1), (1, 2)), ((1, 2), (1, 1)))), (((0, 1), 1), ((1, 2), -1)))
        self.assertEqual(log_parts(rational(-GREATEST, 1)), (((-GREATEST, 1), 1),))

    def test_what_is_not_let(self):
        for value in NOT_NUMBERS + LOG_NOT_LET:
            self.refused(InvalidMaker, log_parts, value)
            self.refused(InvalidMaker, log_relation, (value,))
            self.refused(InvalidMaker, log_relation, (U, value))
        for value in NOT_NUMBERS + EXP_NOT_LET:
            self.refused(InvalidMaker, exp_relation, (value,))
            self.refused(InvalidMaker, exp_relation, (U, value))
        # What is let for exponentials, though not for logarithms, and the other way.
        for value in (U, NOUGHT, rational(0, -7), inverse_of(X, U), number_plus(X, U, inverse_of(X, rational(1, 1))), (((0, 1), (1, 2)), ((1, 1),))):
            self.assertEqual(exp_relation((value,)) is None, value != NOUGHT)
        for value in (ONE, KY, rational(5, 0, 1), inverse_of(X, rational(1, 2))):
            self.assertEqual(log_relation((value,)) is None, value != ONE)

    def test_log_relations(self):
        chance, words = chances(49), []
        for _ in range(150):
            numbers = [product_of(some_rows(chance, 2)) for _ in range(chance.randint(1, 4))]
            if chance.randrange(2):
                # One more that is a product of the others to powers.
                more = ONE
                for number in numbers:
                    more = number_times(X, more, number_power(X, chance.choice((number, inverse_of(X, number))), chance.randint(0, 2)))
                if max(map(len, more)) < 14:
                    numbers.append(more)
            numbers = tuple(numbers)
            if max(len(line) for number in numbers for line in number) > 13:
                continue
            told = log_relation(numbers)
            lines = sorted({line for number in numbers for line, _ in log_parts(number)})
            table = [[dict(log_parts(number)).get(line, 0) for number in numbers] for line in lines]
            words.append(told is None)
            self.assertEqual(told is None, rank(table) == len(numbers))
            if told is not None:
                self.check_relation(numbers, told)
                self.assertTrue(all(sum(a * b for a, b in zip(row, told)) == 0 for row in table))
        self.assertGreater(min(words.count(True), words.count(False)), 20)

    def check_relation(self, numbers, told):
        """Ask that a relation is a tuple of as many integers, not all 0."""
        self.assertEqual((type(told), len(told)), (tuple, len(numbers)))
        self.assertTrue(all(type(number) is int for number in told) and any(told))

    def test_exp_relations(self):
        chance, words = chances(50), []
        basis = [U, rational(0, 0, 1), inverse_of(X, U), inverse_of(X, rational(1, 0, 1)), (((0, 1), (1, 3)), ((1, 1),)), number_plus(X, rational(0, 2), inverse_of(X, rational(2, 1)))]
        for _ in range(120):
            numbers = [chance.choice(basis) for _ in range(chance.randint(1, 2))] + [number_plus(X, chance.choice(basis), chance.choice(basis)) for _ in range(chance.randint(0, 2))]
            if chance.randrange(3) == 0:
                total = NOUGHT
                for number in numbers:
                    total = number_plus(X, total, number_times(X, number_of(X, chance.randint(-4, 4), chance.randint(1, 3)), number))
                numbers.append(total)
            numbers = tuple(numbers)
            told = exp_relation(numbers)
            words.append(told is None)
            under = ONE
            for number in numbers:
                under = number_times(X, under, (number[1], ((1, 1),)))
            lines = [number_times(X, under, number)[0] for number in numbers]
            table = [[fraction_at(line, at) for line in lines] for at in range(max(map(len, lines), default=0))]
            self.assertEqual(told is None, rank(table) == len(numbers))
            if told is not None:
                self.check_relation(numbers, told)
                total = NOUGHT
                for many, number in zip(told, numbers):
                    total = number_plus(X, total, number_times(X, number_of(X, many, 1), number))
                self.assertEqual(total, NOUGHT)
        self.assertGreater(min(words.count(True), words.count(False)), 20)

    def test_known_relations(self):
        self.assertIsNone(log_relation((U, KY)))
        self.assertIn(exp_relation((U, U)), ((1, -1), (-1, 1)))
        # Of no number there is none, of 1, or nought, alone there is one; six are let, seven are not.
        self.assertEqual((log_relation(()), exp_relation(())), (None, None))
        self.assertNotEqual(log_relation((ONE,))[0], 0)
        self.assertNotEqual(exp_relation((NOUGHT,))[0], 0)
        self.assertIsNone(log_relation((U,)))
        self.assertIsNone(exp_relation((U,)))
        six = tuple(rational(at, 1) for at in range(6))
        self.assertIsNone(log_relation(six))
        self.assertIsNone(exp_relation(tuple(rational(*[0] * at, 1) for at in range(1, 7))))
        told = log_relation(six[:5] + (number_times(X, six[0], six[1]),))
        self.assertEqual(tuple(number * told[0] for number in told), tuple(told[0] ** 2 * number for number in (1, 1, 0, 0, 0, -1)))
        told = exp_relation((U, (((0, 1), (2, 3)), ((1, 1),))))
        self.assertEqual(3 * told[0], -2 * told[1])
        for call in (log_relation, exp_relation):
            self.refused(InvalidMaker, call, (U,) * 7)
        # Only products are related, not sums.
        self.assertIsNone(log_relation((U, rational(1, 1), rational(1, 0, 1))))
        told = log_relation((rational(-1, 0, 1), rational(-1, 1), rational(1, 1)))
        self.assertEqual((told[1], told[2]), (-told[0], -told[0]))

    def test_limits(self):
        """12 for the lines of logarithms, behind what is not let; exponentials have no such limit."""
        good, long = (((0, 1),) * 12 + ((1, 1),), ((1, 1),)), (((0, 1),) * 13 + ((1, 1),), ((1, 1),))
        self.assertEqual(log_parts(good), (((0, 1), 12),))
        self.assertIsNone(log_relation((good,)))
        for number in (long, inverse_of(X, long), quotient_of(0, ((1, 1), (1, 1)), long[0])):
            self.limited(log_parts, number)
            self.limited(log_relation, (U, number))
            self.refused(InvalidMaker, log_relation, (number, NOUGHT))
            self.refused(InvalidMaker, log_relation, (number,) * 7)
        self.assertIsNone(exp_relation((long, U)))
        self.assertIsNone(exp_relation((inverse_of(X, long), (((0, 1),) * 60 + ((1, 1),), ((1, 1),)))))

    def test_wrong_arguments(self):
        self.refuses_all(InvalidMaker, log_parts, (), any_values())
        for call in (log_relation, exp_relation):
            self.refuses_all(InvalidMaker, call, (), [value for value in any_values() if value != ()] + [[U], U, (U, None), ((U,),)])

    def test_each_name_is_defined_here(self):
        for name in "log_parts log_relation exp_relation".split():
            self.assertEqual(getattr(makers, name).__module__, "towerback.makers")


def fraction_at(line, at):
    """Return the number of a line at a power as a fraction of Python's own."""
    return Fraction(*line[at]) if at < len(line) else Fraction(0)


def rank(table):
    """Return how many rows of a table tell more than the others, by Gauss' way."""
    rows = [[Fraction(number) for number in row] for row in table]
    found = 0
    for column in range(len(rows[0]) if rows else 0):
        lead = next((row for row in rows[found:] if row[column]), None)
        if lead is not None:
            rows.remove(lead)
            rows.insert(found, lead)
            for at in range(found + 1, len(rows)):
                many = rows[at][column] / lead[column]
                rows[at] = [a - many * b for a, b in zip(rows[at], lead)]
            found += 1
    return found


if __name__ == "__main__":
    unittest.main()
