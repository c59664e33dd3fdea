"""Points 24 and 89: root sums and their derivatives."""

import unittest

from tests.sums_by_trial import ROOTS, THIRTEEN, TWELVE, constant_thing, great_derivative, plain_derivative, random_sum
from tests.support import GREATEST, Asks, any_values, chances
from tests.test_rootlifts import FQ
from tests.test_towers import TOWERS, U, rational
from towerback import rootsums
from towerback.errors import ByNought, InvalidNumber, InvalidSums, InvalidTower
from towerback.fieldways import is_number, number_of, number_plus, number_times
from towerback.rootlifts import constant_of, with_root
from towerback.rootsums import is_root_sum, sums_derived, sums_joined, sums_times
from towerback.rootthings import full_line
from towerback.towers import field_of, last_unknown, lifted_thing

FS = rational(0, 1), rational(2)
NO_TOWERS = [value for value in any_values() if value != ()] + [(("log", U),) * 4, (("sin", U),), [("log", U)], (("exp", rational(3)),)]


class RootSums(Asks, unittest.TestCase):
    def cases(self, most=9):
        """Return pairs of a tower and of a tuple of root sums."""
        found = []
        for seed, tower in enumerate(TOWERS[:most]):
            chance = chances(seed)
            lines = ROOTS if len(tower) < 2 else ROOTS[:3]
            found.extend((tower, (random_sum(chance, tower, line),)) for line in lines)
            found.append((tower, tuple(random_sum(chance, tower, line) for line in chance.choices(lines[:4], k=2))))
        return found

    def test_derivatives(self):
        for tower, sums in self.cases():
            if len(tower) < 3:
                self.assertEqual(sums_derived(tower, sums), plain_derivative(tower, sums), (tower, sums))
        for tower in TOWERS:
            self.assertEqual(sums_derived(tower, ()), number_of(field_of(tower), 0, 1))
        self.assertEqual(sums_derived((), ((FQ, FS),)), (((1, 1),), ((1, 1), (0, 1), (1, 1))))

    def test_derivatives_of_three_steps(self):
        tower = TOWERS[8]
        field = field_of(tower)
        x, t = lifted_thing(tower, U), last_unknown(tower)
        for line in ROOTS[:5]:
            for thing in ((t,), (number_plus(field, t, x),), constant_thing(tower, 2)[:1], (x, t)[:len(line) - 1]):
                sums = ((line, thing),)
                self.assertEqual(sums_derived(tower, sums), plain_derivative(tower, sums))

    def test_longer_root_lines(self):
        thing = (rational(0, 1), rational(1)) + (rational(),) * 9 + (rational(3, 1),)
        self.assertIs(is_root_sum((), (TWELVE, thing)), True)
        self.assertIs(is_root_sum((), (THIRTEEN, thing)), False)
        self.assertEqual(sums_derived((), ((TWELVE, thing),)), plain_derivative((), ((TWELVE, thing),)))
        great = (((GREATEST, 1), (1, 1)), (rational(GREATEST, GREATEST - 1),))
        self.assertEqual(sums_derived((), (great,)), great_derivative(great))
        quadratic = ((GREATEST, 3), (1, 7), (1, 1)), (rational(5, GREATEST), rational(GREATEST - 1, 1, 1))
        self.assertEqual(sums_derived((), (quadratic,)), great_derivative(quadratic))
        self.assertEqual(sums_derived((), ((FQ, FS),)), great_derivative((FQ, FS)))

    def test_many_sums(self):
        chance = chances(89)
        sums = tuple(random_sum(chance, (), line) for line in chance.choices(ROOTS[:3], k=16))
        total = rational()
        for root_sum in sums:
            total = number_plus(("quot", 0), total, sums_derived((), (root_sum,)))
        self.assertEqual(sums_derived((), sums), total)
        for function in (sums_derived, sums_joined):
            self.refused(InvalidSums, function, (), sums + sums[:1])
        self.refused(InvalidSums, sums_times, (), sums + sums[:1], None)
        self.assertEqual(sums_derived((), sums[:1] * 16), number_times(("quot", 0), sums_derived((), sums[:1]), rational(16)))

    def test_constant_sums(self):
        for tower in TOWERS[:7]:
            for line in ROOTS[1:5]:
                root_sum = line, constant_thing(tower, *(5, 3)[:len(line) - 1])
                self.assertIs(is_root_sum(tower, root_sum), True)
                self.assertEqual(sums_derived(tower, (root_sum,)), number_of(field_of(tower), 0, 1))
                self.assertEqual(sums_joined(tower, (root_sum,)), ())

    def test_what_is_a_root_sum(self):
        for tower in TOWERS:
            one = number_of(field_of(tower), 1, 1)
            for value in any_values() + [(FQ, ()), (FQ,), (FQ, (one,), None), [FQ, (one,)], (FQ, [one]), (FQ, (one,) * 3), (FQ, one)]:
                self.assertIs(is_root_sum(tower, value), False)
                self.assertIs(is_root_sum(tower, (FQ, value)), False)
                self.assertIs(is_root_sum(tower, (value, (one,))), False)
            self.assertIs(is_root_sum(tower, (FQ, (one,))), True)
            self.assertIs(is_root_sum(tower, (FQ, (one, one))), True)
            self.assertIs(is_root_sum(tower, (FQ, (number_of(field_of(tower), 0, 1), one))), True)
            self.assertIs(is_root_sum(tower, (((-1, 1), (1, 1)), (one,))), True)
            self.assertIs(is_root_sum(tower, (((-1, 1), (1, 1)), (one, one))), False)
            self.assertIs(is_root_sum(tower, (((0, 1), (1, 1)), (one,))), False)
            self.assertIs(is_root_sum(tower, (((-1, 4), (0, 1), (1, 1)), (one,))), False)
        self.assertIs(is_root_sum((), (FQ, (rational(GREATEST),))), True)
        self.assertIs(is_root_sum((), (FQ, (rational(GREATEST + 1),))), False)
        self.assertIs(is_root_sum((), (FQ, (((1, 1),) * 62, ((1, 1),)))), False)
        self.assertIs(is_root_sum(TOWERS[1], (FQ, (rational(0, 1),))), False)

    def test_times(self):
        """The derivative is the fraction times that of the sums; the root lines have the roots times the fraction."""
        for tower, sums in self.cases(6):
            field = field_of(tower)
            for number in ((2, 1), (-1, 3), (1, 1), (-7, 5)):
                found = sums_times(tower, sums, number)
                self.assertEqual(sums_times(tower, found, number_of(0, number[1], number[0])), sums)
                for (line, thing), (other, told) in zip(sums, found):
                    root = ("root", 0, line)
                    moved = (number_of(0, -line[0][0] * number[0], line[0][1] * number[1]),) if len(line) == 2 else ((0, 1), number)
                    self.assertEqual(other, full_line(root, moved))
                    scale = number_of(0, number[1], number[0])
                    power = (1, 1)
                    for part, by in zip(thing, told):
                        self.assertEqual(number_times(field, part, number_of(field, power[0], power[1])), by)
                        power = number_times(0, power, scale)
                wished = number_times(field, sums_derived(tower, sums), number_of(field, number[0], number[1]))
                self.assertEqual(sums_derived(tower, found), wished)
        self.assertEqual(sums_times((), (), (5, 1)), ())
        told = sums_times((), ((FQ, FS),), (2, 1))
        self.assertEqual(told, ((((1, 1), (0, 1), (1, 1)), (rational(0, 1), rational(1))),))

    def test_joined(self):
        for tower, sums in self.cases(7):
            field = field_of(tower)
            if len(tower) > 1:
                continue
            double = sums + tuple(reversed(sums)) + ((ROOTS[2], constant_thing(tower, 4)),)
            found = sums_joined(tower, double)
            self.assertEqual(list(found), sorted(found))
            self.assertEqual(len(found), len({line for line, _ in found}))
            for line, thing in found:
                product = (number_of(field, 1, 1),)
                for other, part in double:
                    if other == line:
                        product = number_times(with_root(field, line), product, part)
                self.assertEqual(thing, product)
                self.assertTrue(any(constant_of(field, number) is None for number in thing))
            for line, thing in sums:
                if any(constant_of(field, number) is None for number in thing) and len(sums) == 1 and line != ROOTS[2]:
                    self.assertIn(line, [other for other, _ in found])
            self.assertEqual(sums_derived(tower, found), sums_derived(tower, double))
        self.assertEqual(sums_joined((), ()), ())
        # One that stands twice, and two whose product is constant.
        twice = sums_joined((), ((ROOTS[0], (rational(0, 1),)),) * 2)
        self.assertEqual(twice, ((ROOTS[0], (rational(0, 0, 1),)),))
        inverse = (((1, 1),), ((0, 1), (1, 1)))
        self.assertEqual(sums_joined((), ((ROOTS[0], (rational(0, 1),)), (ROOTS[0], (inverse,)))), ())
        self.assertEqual(sums_joined((), ((FQ, FS[1:]),)), ())
        order = tuple((line, (rational(0, 1),)) for line in ROOTS)
        self.assertEqual(sums_joined((), order), tuple(sorted(order)))

    def test_wrong_arguments(self):
        for value in NO_TOWERS:
            self.refused(InvalidTower, is_root_sum, value, None)
            self.refused(InvalidTower, sums_derived, value, None)
            self.refused(InvalidTower, sums_times, value, None, None)
            self.refused(InvalidTower, sums_joined, value, ())
        one = (rational(1),)
        wrong = [value for value in any_values()] + [[], ((FQ, ()),), ((FQ, FS), None), [(FQ, FS)], ((((0, 1), (1, 1)), one),), (FQ, FS)]
        for function, behind in ((sums_derived, ()), (sums_times, (None,)), (sums_joined, ())):
            self.refuses_all(InvalidSums, function, ((),), wrong, behind)
            self.refused(InvalidSums, function, TOWERS[1], ((FQ, FS),), *behind)
        numbers = [value for value in any_values() if not is_number(0, value)] + [(2, 4), (1, 0), (GREATEST + 1, 1)]
        self.refuses_all(InvalidNumber, sums_times, ((), ((FQ, FS),)), numbers)
        self.refused(ByNought, sums_times, (), ((FQ, FS),), (0, 1))
        self.refused(ByNought, sums_times, (), (), (0, 1))

    def test_each_name_is_defined_here(self):
        for name in "is_root_sum sums_derived sums_times sums_joined".split():
            self.assertEqual(getattr(rootsums, name).__module__, "towerback.rootsums")


if __name__ == "__main__":
    unittest.main()
