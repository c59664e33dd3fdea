"""Points 7, 8 and 57: towers and derivatives."""

import unittest

from tests.support import GREATEST, X, Asks, any_values, chances, random_number
from towerback import towers
from towerback.errors import InvalidNumber, InvalidTower
from towerback.fieldways import inverse_of, number_minus, number_plus, number_power, number_times, quotient_of
from towerback.towers import derivative_of, field_of, is_tower, last_unknown, lifted_thing


def rational(*numbers):
    """Return a line of integers as a rational function."""
    return tuple((number, 1) for number in numbers), ((1, 1),)


U = rational(0, 1)
V = (((1, 1), (0, 1), (1, 1)), ((-1, 1), (1, 1)))
W = (((1, 1),), ((0, 1), (1, 1)))
TOWERS = [
    (), (("log", U),), (("exp", U),), (("log", V),), (("exp", W),), (("log", U), ("exp", V)), (("exp", U), ("log", W)),
    (("log", U), ("log", U)), (("log", U), ("exp", U), ("log", rational(1, 1))), (("exp", U), ("exp", rational(0, 0, 1)), ("exp", W)),
]


class Towers(Asks, unittest.TestCase):
    def test_what_is_a_tower(self):
        for tower in TOWERS:
            self.assertIs(is_tower(tower), True, tower)
        step = ("log", U)
        self.assertTrue(is_tower((step,) * 3))
        self.assertFalse(is_tower((step,) * 4))

    def test_what_is_none(self):
        for value in any_values():
            if value != ():
                self.assertIs(is_tower(value), False, value)
                self.assertIs(is_tower((value,)), False, value)
                self.assertIs(is_tower((("log", value),)), False, value)
                self.assertIs(is_tower(((value, U),)), value == "log", value)
        for step in (("Log", U), ("sin", U), ("log", U, U), ["log", U], ("log", [U[0], U[1]]), ("log", rational(2)),
                     ("log", rational()), ("exp", rational(5)), ("log", (((2, 2), (1, 1)), ((1, 1),))), (U, "log"),
                     ("log", (((1, 1), (2, 1)), ((2, 1),))), ("exp", rational(GREATEST + 1, 1)), ("exp", ((1, 1),) * 2),
                     ("log", (((1, 1),) * 62, ((1, 1),))), (True, U), ("exp", (U, U))):
            self.assertIs(is_tower((step,)), False, step)
            self.assertIs(is_tower((("log", U), step)), False, step)
        self.assertFalse(is_tower([("log", U)]))
        self.assertTrue(is_tower((("exp", rational(GREATEST, 1)),)))
        self.assertTrue(is_tower((("exp", (((1, 1),) * 61, ((1, 1),))),)))

    def test_fields(self):
        self.assertEqual(field_of(()), X)
        self.assertEqual(field_of(TOWERS[1]), ("quot", X))
        self.assertEqual(field_of(TOWERS[-1]), ("quot", ("quot", ("quot", X))))

    def test_unknowns(self):
        self.assertEqual(last_unknown(()), U)
        one = (((1, 1),), ((1, 1),))
        self.assertEqual(last_unknown(TOWERS[2]), ((((), ((1, 1),)), one), (one,)))
        for tower in TOWERS:
            thing, field = last_unknown(tower), field_of(tower)
            slope = derivative_of(tower, thing)
            if tower == ():
                self.assertEqual(slope, rational(1))
                continue
            kind, inner = tower[-1]
            by = lifted_thing(tower, derivative_of((), inner))
            if kind == "log":
                self.assertEqual(slope, number_times(field, by, inverse_of(field, lifted_thing(tower, inner))))
            else:
                self.assertEqual(slope, number_times(field, by, thing))

    def test_lifted_things(self):
        self.assertEqual(lifted_thing((), V), V)
        self.assertEqual(lifted_thing(TOWERS[1], V), ((V,), (rational(1),)))
        self.assertEqual(lifted_thing(TOWERS[1], rational()), ((), (rational(1),)))
        two = lifted_thing(TOWERS[5], V)
        self.assertEqual(two, ((((V,), (rational(1),)),), (((rational(1),), (rational(1),)),)))
        self.assertEqual(lifted_thing(TOWERS[5], rational())[0], ())
        for tower in TOWERS:
            lifted = lifted_thing(tower, derivative_of((), V))
            self.assertEqual(derivative_of(tower, lifted_thing(tower, V)), lifted)
            self.assertEqual(derivative_of(tower, lifted_thing(tower, rational(7))), lifted_thing(tower, rational()))

    def test_rational_functions(self):
        self.assertEqual(derivative_of((), rational(1, 2, 3)), rational(2, 6))
        self.assertEqual(derivative_of((), W), (((-1, 1),), ((0, 1), (0, 1), (1, 1))))
        self.assertEqual(derivative_of((), (((1, 1),), ((1, 1), (0, 1), (1, 1)))),
                         (((0, 1), (-2, 1)), ((1, 1), (0, 1), (2, 1), (0, 1), (1, 1))))

    def test_sums_products_and_quotients(self):
        for seed, tower in enumerate(TOWERS):
            field, chance = field_of(tower), chances(seed)
            if len(tower) == 3:
                x, t = lifted_thing(tower, U), last_unknown(tower)
                one, other = number_plus(field, t, x), number_times(field, t, number_plus(field, t, inverse_of(field, x)))
            else:
                one, other = random_number(chance, field), random_number(chance, field)
            by_one, by_other = derivative_of(tower, one), derivative_of(tower, other)
            total = derivative_of(tower, number_plus(field, one, other))
            self.assertEqual(total, number_plus(field, by_one, by_other))
            mixed = number_plus(field, number_times(field, by_one, other), number_times(field, one, by_other))
            self.assertEqual(derivative_of(tower, number_times(field, one, other)), mixed)
            if other[0]:
                inverse = inverse_of(field, other)
                over = number_minus(field, number_times(field, by_one, other), number_times(field, one, by_other))
                told = number_times(field, over, number_power(field, inverse, 2))
                self.assertEqual(derivative_of(tower, number_times(field, one, inverse)), told)

    def test_a_logarithm_that_stands_twice(self):
        tower = TOWERS[7]
        first = ((last_unknown(tower[:1]),), last_unknown(tower)[1])
        field = field_of(tower)
        less = number_minus(field, last_unknown(tower), first)
        self.assertEqual(derivative_of(tower, less), lifted_thing(tower, rational()))
        self.assertEqual(derivative_of(tower, inverse_of(field, less)), lifted_thing(tower, rational()))
        self.assertEqual(derivative_of(tower, quotient_of(field[1], first[0], less[0])),
                         number_times(field, derivative_of(tower, first), inverse_of(field, less)))

    def test_wrong_towers(self):
        for value in any_values() + [(("log", rational(2)),)]:
            if value != ():
                self.refused(InvalidTower, field_of, value)
                self.refused(InvalidTower, last_unknown, value)
                self.refused(InvalidTower, derivative_of, value, None)
                self.refused(InvalidTower, lifted_thing, value, None)

    def test_wrong_things(self):
        for tower in TOWERS:
            self.refuses_all(InvalidNumber, derivative_of, (tower,), any_values())
            self.refuses_all(InvalidNumber, lifted_thing, (tower,), any_values() + [((), ())])
        self.refused(InvalidNumber, derivative_of, TOWERS[1], U)
        self.refused(InvalidNumber, derivative_of, (), last_unknown(TOWERS[1]))
        self.refused(InvalidNumber, lifted_thing, TOWERS[1], last_unknown(TOWERS[1]))
        self.refused(InvalidNumber, derivative_of, (), (((0, 1), (2, 1)), ((0, 1), (1, 1))))

    def test_each_name_is_defined_here(self):
        for name in "is_tower field_of derivative_of lifted_thing last_unknown".split():
            self.assertEqual(getattr(towers, name).__module__, "towerback.towers")


if __name__ == "__main__":
    unittest.main()
