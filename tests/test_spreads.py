"""Points 46 and 112: spreads."""

import unittest

from tests.support import GREATEST, X, Asks, any_values, chances, random_number
from tests.test_rootsums import NO_TOWERS
from tests.test_termled import EXP, LOG, THREE, unknown
from tests.test_towers import TOWERS, U, V, W, rational
from towerback import spreads
from towerback.errors import InvalidNumber, InvalidTower
from towerback.fieldways import inverse_of, is_number, number_of, number_plus, number_power, number_times
from towerback.spreads import spread_of
from towerback.towers import field_of, last_unknown, lifted_thing

ONE, NOUGHT = rational(1), rational()
SPREAD_TOWERS = [(LOG,), (EXP,), (LOG, EXP), (EXP, LOG), THREE, (EXP, LOG, ("exp", W)), (LOG, LOG), (("exp", V), EXP)]


def product_of(tower, exponents, function):
    """Return the product of a rational function and of powers of the unknowns of a tower."""
    field = field_of(tower)
    total = lifted_thing(tower, function)
    for at, exponent in enumerate(exponents):
        part = unknown(tower, at)
        total = number_times(field, total, number_power(field, part if exponent >= 0 else inverse_of(field, part), abs(exponent)))
    return total


def thing_of(tower, rows):
    """Return the sum of products."""
    total = number_of(field_of(tower), 0, 1)
    for exponents, function in rows:
        total = number_plus(field_of(tower), total, product_of(tower, exponents, function))
    return total


def some_rows(chance, tower, many, most=2):
    """Return an ascending tuple of some exponents with rational functions."""
    found = {}
    for _ in range(many):
        exponents = tuple(chance.randint(0 if sort == "log" else -most, most) for sort, _ in tower)
        function = random_number(chance, X, 1)
        if function != NOUGHT:
            found[exponents] = function
    return tuple(sorted(found.items()))


class Spreads(Asks, unittest.TestCase):
    def test_spreads(self):
        for seed, tower in enumerate(SPREAD_TOWERS):
            chance = chances(seed)
            for _ in range(25):
                rows = some_rows(chance, tower, chance.randint(0, 4))
                thing = thing_of(tower, rows)
                if is_number(field_of(tower), thing):
                    self.assertEqual(spread_of(tower, thing), rows)

    def test_known_spreads(self):
        self.assertEqual(spread_of((), U), (((), U),))
        self.assertEqual(spread_of((), W), (((), W),))
        self.assertEqual(spread_of((), NOUGHT), ())
        for tower in TOWERS:
            self.assertEqual(spread_of(tower, lifted_thing(tower, NOUGHT)), ())
            self.assertEqual(spread_of(tower, lifted_thing(tower, V)), (((0,) * len(tower), V),))
            if tower:
                self.assertEqual(spread_of(tower, last_unknown(tower)), (((0,) * (len(tower) - 1) + (1,), ONE),))
        tower = (LOG, EXP)
        self.assertEqual(spread_of(tower, product_of(tower, (2, -3), W)), (((2, -3), W),))
        # Exponents below 0 come ahead, as Python orders tuples.
        rows = (((0, -1), U), ((0, 2), V), ((1, -2), ONE), ((1, 0), W))
        self.assertEqual(spread_of(tower, thing_of(tower, rows)), rows)

    def test_no_spreads(self):
        for tower in SPREAD_TOWERS:
            field = field_of(tower)
            for at, (sort, _) in enumerate(tower):
                inverse = inverse_of(field, unknown(tower, at))
                if sort == "log":
                    self.assertIsNone(spread_of(tower, inverse))
                else:
                    self.assertEqual(spread_of(tower, inverse), ((tuple(-1 if k == at else 0 for k in range(len(tower))), ONE),))
                more = number_plus(field, unknown(tower, at), lifted_thing(tower, ONE))
                self.assertIsNone(spread_of(tower, inverse_of(field, more)))
                self.assertIsNone(spread_of(tower, number_plus(field, inverse_of(field, more), unknown(tower, len(tower) - 1))))
                # A common divisor is gone: what is left has one.
                self.assertEqual(len(spread_of(tower, number_times(field, number_times(field, more, unknown(tower, at)), inverse_of(field, more)))), 1)
        tower = (EXP, LOG)
        field = field_of(tower)
        under = number_plus(field, unknown(tower, 0), unknown(tower, 1))
        self.assertIsNone(spread_of(tower, inverse_of(field, under)))
        # By a number of the steps below that is no power, though the last step has none.
        below = number_plus(field, unknown(tower, 0), lifted_thing(tower, U))
        self.assertIsNone(spread_of(tower, number_times(field, unknown(tower, 1), inverse_of(field, below))))

    def test_wrong_arguments(self):
        self.refuses_all(InvalidTower, spread_of, (), NO_TOWERS, (None,))
        for tower in TOWERS:
            values = [value for value in any_values() if not is_number(field_of(tower), value)] + [rational(GREATEST + 1), (U[0], U[0])]
            self.refuses_all(InvalidNumber, spread_of, (tower,), values)

    def test_each_name_is_defined_here(self):
        self.assertEqual(spreads.spread_of.__module__, "towerback.spreads")


if __name__ == "__main__":
    unittest.main()
