"""Points 26 and 91: logarithms of quotients, and what is left over."""

import unittest

from tests.sums_by_trial import ROOTS, plain_derivative
from tests.support import GREATEST, Asks, any_values, chances
from tests.test_residues import EXP, LOG, below, is_quotient, quotients, slope_in, some_line
from tests.test_rootlifts import FQ
from tests.test_rootsums import FS, NO_TOWERS
from tests.test_towers import TOWERS, U, V, W, rational
from towerback import logarithms as module
from towerback.errors import InvalidLine, InvalidTower, NotNormal, NotProper
from towerback.fieldways import is_line, number_of, number_plus, number_times, quotient_of
from towerback.lineways import common_line, divided_lines, does_divide, line_minus, scaled_line
from towerback.logarithms import leftover, logarithms
from towerback.rawsums import derived_sums
from towerback.residues import residue_flaw, residue_line
from towerback.rootlifts import constant_of, is_root_line, spread_line, with_root
from towerback.rootsums import sums_derived
from towerback.towers import derivative_of, field_of, lifted_thing

ONE, NOUGHT = rational(1), rational()


def raised(field, line):
    """Return a line over a field as one over the field with a root."""
    return tuple(() if number == number_of(field, 0, 1) else (number,) for number in line)


def lifted(tower, number):
    """Return a number of the field below as a thing of the tower."""
    field = below(tower)
    return (() if number == number_of(field, 0, 1) else (number,)), (number_of(field, 1, 1),)


class Logarithms(Asks, unittest.TestCase):
    def check(self, tower, over, under):
        """Ask that the logarithms and the leftover of a quotient are as told; return the logarithms."""
        found, left = logarithms(tower, over, under), leftover(tower, over, under)
        if residue_flaw(tower, over, under) is not None:
            self.assertEqual((found, left), (None, None))
            return None
        field, inner = field_of(tower), below(tower)
        self.assertEqual(list(found), sorted(found))
        residue = tuple(constant_of(inner, number) for number in residue_line(tower, over, under))
        for line, thing in found:
            self.assertTrue(is_root_line(line) and does_divide(0, line, residue))
            with_it = with_root(inner, line)
            root = (number_of(inner, 0, 1), number_of(inner, 1, 1)) if len(line) > 2 else (number_of(inner, -line[0][0], line[0][1]),)
            slope = scaled_line(with_it, raised(inner, slope_in(tower, under)), root)
            common = common_line(with_it, raised(inner, under), line_minus(with_it, raised(inner, over), slope))
            self.assertEqual(thing, spread_line(inner, line, common))
        self.assertEqual(len({line for line, _ in found}), len(found))
        self.assert_all_roots(residue, found)
        total = number_plus(field, sums_derived(tower, found), lifted(tower, left))
        self.assertEqual(total, quotient_of(inner, over, under))
        return found

    def assert_all_roots(self, residue, found):
        """Ask that nothing but powers of root lines told, and of the unknown, is in the residue line."""
        for line in [line for line, _ in found] + [((0, 1), (1, 1))]:
            while does_divide(0, line, residue):
                residue = divided_lines(0, residue, line)[0]
        self.assertEqual(len(residue), 1)

    def test_rational_functions(self):
        for over, under in quotients((), 60, 91, 6):
            self.check((), over, under)
        self.assertEqual(logarithms((), ((1, 1),), ((1, 1), (0, 1), (1, 1))), ((FQ, FS),))
        self.assertEqual(logarithms((), (), ((1, 1), (1, 1))), ())
        self.assertEqual(leftover((), (), ((1, 1), (1, 1))), (0, 1))

    def test_degree_twelve(self):
        for under in (((-2, 1),) + ((0, 1),) * 11 + ((1, 1),), ((-1, 1),) + ((0, 1),) * 11 + ((1, 1),)):
            found = logarithms((), ((1, 1),), under)
            self.assertEqual(sums_derived((), found), (((1, 1),), under))
            self.assertEqual(len(logarithms((), slope_in((), under), under)), 1)
        chance = chances(12)
        under = tuple((chance.randint(-9, 9), 1) for _ in range(12)) + ((1, 1),)
        found = logarithms((), ((1, 1), (5, 3)), under)
        # These are too great to be handed in.
        self.assertEqual(derived_sums((), found), quotient_of(0, ((1, 1), (5, 3)), under))
        great = ((GREATEST, 1), (1, GREATEST - 1), (1, 1))
        found = logarithms((), ((1, GREATEST),), great)
        self.assertEqual(derived_sums((), found), (((1, GREATEST),), great))

    def test_towers(self):
        for seed, tower in enumerate(TOWERS[1:8], 1):
            for over, under in quotients(tower, 10, seed, 3 if len(tower) < 2 else 2):
                self.check(tower, over, under)

    def test_planted_logarithms(self):
        """Of the derivative of root sums of monic lines, the logarithms have it as derivative again, up to what is left."""
        for seed, tower in enumerate(TOWERS[:7]):
            chance, inner, done = chances(seed), below(tower), 0
            while done < 6:
                sums = []
                for line in chance.sample(ROOTS[:6 if len(tower) < 2 else 4], chance.choice((1, 1, 2))):
                    with_it = with_root(inner, line)
                    numbers = [some_line(chance, inner, len(line) - 1) for _ in range(chance.choice((1, 1, 2)) if len(line) < 4 else 1)]
                    sums.append((line, spread_line(inner, line, tuple(numbers) + (number_of(with_it, 1, 1),))))
                over, under = sums_derived(tower, tuple(sums))
                whole, over = divided_lines(inner, over, under)
                if not over or not is_quotient(tower, over, under) or len(str(under)) > 1500:
                    continue
                done += 1
                self.assertLessEqual(len(whole), 1)
                found = self.check(tower, over, under)
                self.assertIsNotNone(found)
                if len(tower) < 2:
                    self.assertEqual(sums_derived(tower, found), plain_derivative(tower, found))

    def test_leftovers(self):
        t = (NOUGHT, ONE)
        self.assertEqual(leftover(EXP, (ONE,), (ONE, ONE)), ONE)
        self.assertEqual(logarithms(EXP, (ONE,), (ONE, ONE)), ((((1, 1), (1, 1)), (((ONE, ONE), (ONE,)),)),))
        # The function inside: 1 / (exp(1/x) + 1) is no quotient of constants, but its derivative's share is.
        tower = (("exp", W),)
        slope = derivative_of((), W)
        self.assertEqual(leftover(tower, (slope,), (ONE, ONE)), slope)
        self.assertEqual(leftover(tower, scaled_line(("quot", 0), (slope,), rational(-3)), (rational(2), ONE)),
                         number_times(("quot", 0), slope, (((-3, 2),), ((1, 1),))))
        self.assertEqual(leftover(LOG, ((((1, 1),), ((0, 1), (1, 1))),), t), NOUGHT)
        self.assertIsNone(leftover(LOG, (ONE,), t))
        self.assertIsNone(logarithms(LOG, (ONE,), t))
        two = TOWERS[5]
        unit = number_of(below(two), 1, 1)
        inner = lifted_thing(two[:1], derivative_of((), V))
        self.assertEqual(leftover(two, (inner,), (unit, unit)), inner)
        self.assertEqual(leftover((), ((1, 1),), ((5, 1), (1, 1))), (0, 1))

    def test_two_roots_of_one_residue(self):
        """Poles with one residue are told by one line; those with the residue 0 are not told."""
        line = ((2, 1), (3, 1), (1, 1))
        self.assertEqual(logarithms((), ((3, 1), (2, 1)), line), ((((-1, 1), (1, 1)), ((line, ((1, 1),)),)),))
        slope = scaled_line(("quot", 0), (rational(1),), (((1, 1),), ((0, 1), (1, 1))))
        over = (number_times(("quot", 0), slope[0], rational(-1)), slope[0])
        under = (NOUGHT, rational(-1), ONE)
        found = logarithms(LOG, over, under)
        self.assertEqual(found, ((((-1, 1), (1, 1)), ((((NOUGHT, ONE)), (ONE,)),)),))

    def test_steps_whose_functions_are_alike(self):
        tower = (("exp", U), ("exp", rational(0, 2)))
        unit = number_of(below(tower), 1, 1)
        t = (((NOUGHT, ONE), (ONE,)))
        under = (t, unit)
        self.check(tower, (t,), under)
        self.check(tower, (unit,), under)

    def test_wrong_arguments(self):
        for function in (logarithms, leftover):
            self.refuses_all(InvalidTower, function, (), NO_TOWERS, (None, None))
            for tower in ((), LOG, EXP):
                wrong = [value for value in any_values() if not is_line(below(tower), value)] + [((0, 1),), (1,)]
                self.refuses_all(InvalidLine, function, (tower,), wrong, (None,))
                self.refuses_all(InvalidLine, function, (tower, ()), wrong)
            self.refused(NotProper, function, (), ((1, 1), (1, 1)), ((1, 1), (1, 1)))
            self.refused(NotProper, function, (), (), ((1, 1),))
            self.refused(NotProper, function, (), ((1, 1),), ((1, 1), (2, 1)))
            self.refused(NotProper, function, (), ((1, 1),), ((1, 1),) + ((0, 1),) * 12 + ((1, 1),))
            self.refused(NotNormal, function, (), ((1, 1),), ((1, 1), (2, 1), (1, 1)))
            self.refused(NotNormal, function, EXP, (ONE,), (NOUGHT, ONE))

    def test_each_name_is_defined_here(self):
        for name in "logarithms leftover".split():
            self.assertEqual(getattr(module, name).__module__, "towerback.logarithms")


if __name__ == "__main__":
    unittest.main()
