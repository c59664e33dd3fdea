"""Points 27 and 93: things of a tower in three parts."""

import unittest

from tests.support import Asks, any_values, chances, random_number
from tests.test_residues import EXP, LOG, TWICE, below, slope_in, some_line
from tests.test_rootsums import NO_TOWERS
from tests.test_towers import TOWERS, U, W, rational
from towerback import parted
from towerback.errors import InvalidLine, InvalidNumber, InvalidTower
from towerback.fieldways import is_line, is_number, number_of, number_plus, quotient_of
from towerback.lineways import common_line, does_divide, line_times
from towerback.parted import is_normal, parts_of, special_part
from towerback.towers import field_of, last_unknown

ONE, NOUGHT = rational(1), rational()


def plain_special(tower, line):
    """Return the special part of a monic line, by trying powers of the unknown."""
    field, power = below(tower), (number_of(below(tower), 1, 1),)
    if tower == () or tower[-1][0] == "log":
        return power
    unknown = number_of(field, 0, 1), number_of(field, 1, 1)
    while does_divide(field, line_times(field, power, unknown), line):
        power = line_times(field, power, unknown)
    return power


def random_thing(chance, tower, most=3):
    """Return some thing of a tower, with a power of the unknown in the under more often than not."""
    field = below(tower)
    if len(tower) > 2:
        return random_number(chance, field_of(tower), 0)
    under = ()
    while under == ():
        under = some_line(chance, field, chance.randint(1, most))
    if chance.random() < 0.7:
        under = (number_of(field, 0, 1),) * chance.randint(1, 2) + under
    return quotient_of(field, some_line(chance, field, chance.randint(0, most + 2)), under)


class Parted(Asks, unittest.TestCase):
    def test_parts(self):
        for seed, tower in enumerate(TOWERS[:8]):
            chance, field, inner = chances(seed), field_of(tower), below(tower)
            unit = number_of(inner, 1, 1)
            for _ in range(25 if len(tower) < 2 else 8):
                thing = random_thing(chance, tower, 3 if len(tower) < 2 else 2)
                line, special, proper = parts_of(tower, thing)
                for part in (line, special, proper):
                    self.assertIs(is_number(field, part), True)
                self.assertEqual(number_plus(field, number_plus(field, line, special), proper), thing)
                self.assertEqual(line[1], (unit,))
                self.assertLess(len(special[0]), len(special[1]))
                self.assertEqual(plain_special(tower, special[1]), special[1])
                self.assertLess(len(proper[0]), len(proper[1]))
                self.assertEqual(plain_special(tower, proper[1]), (unit,))
                if tower == () or tower[-1][0] == "log":
                    self.assertEqual(special, number_of(field, 0, 1))

    def test_things_with_a_part_alone(self):
        for tower in TOWERS:
            field = field_of(tower)
            nought, t = number_of(field, 0, 1), last_unknown(tower)
            self.assertEqual(parts_of(tower, nought), (nought, nought, nought))
            self.assertEqual(parts_of(tower, t), (t, nought, nought))
            unit = number_of(below(tower), 1, 1)
            inverse = ((unit,), t[0])
            exponential = tower != () and tower[-1][0] == "exp"
            self.assertEqual(parts_of(tower, inverse), (nought, inverse, nought) if exponential else (nought, nought, inverse))
            other = ((unit,), (unit, unit))
            self.assertEqual(parts_of(tower, other), (nought, nought, other))
            # A thing with all three: t + 1 / t + 1 / (t + 1).
            total = number_plus(field, number_plus(field, t, inverse), other)
            if exponential:
                self.assertEqual(parts_of(tower, total), (t, inverse, other))
            else:
                self.assertEqual(parts_of(tower, total), (t, nought, number_plus(field, inverse, other)))
        deep = ((ONE,), (NOUGHT,) * 5 + (ONE,))
        self.assertEqual(parts_of(EXP, deep), (number_of(("quot", ("quot", 0)), 0, 1), deep, number_of(("quot", ("quot", 0)), 0, 1)))

    def test_special_parts(self):
        for seed, tower in enumerate(TOWERS[:7]):
            chance, field = chances(seed), below(tower)
            for many in (0, 0, 1, 2, 4):
                line = (number_of(field, 0, 1),) * many + some_line(chance, field, 2) + (number_of(field, 1, 1),)
                self.assertEqual(special_part(tower, line), plain_special(tower, line))
        self.assertEqual(special_part((), ((0, 1), (1, 1))), ((1, 1),))
        self.assertEqual(special_part(EXP, (NOUGHT, NOUGHT, ONE)), (NOUGHT, NOUGHT, ONE))
        self.assertEqual(special_part(EXP, (ONE,)), (ONE,))
        self.assertEqual(special_part(LOG, (NOUGHT, NOUGHT, ONE)), (ONE,))
        self.assertEqual(special_part((), ((1, 1),)), ((1, 1),))

    def test_normal_lines(self):
        for seed, tower in enumerate(TOWERS[:8]):
            chance, field = chances(seed), below(tower)
            for _ in range(15):
                line = some_line(chance, field, 3)
                if line == ():
                    continue
                for other in (line, line_times(field, line, line), (number_of(field, 0, 1),) + line):
                    wished = len(common_line(field, other, slope_in(tower, other))) == 1
                    self.assertIs(is_normal(tower, other), wished)
        self.assertIs(is_normal((), ((0, 1), (0, 1), (1, 1))), False)
        self.assertIs(is_normal((), ((7, 1),)), True)
        self.assertIs(is_normal((), ((7, 1), (0, 1), (3, 1))), True)
        self.assertIs(is_normal(EXP, (NOUGHT, ONE)), False)
        self.assertIs(is_normal(LOG, (NOUGHT, ONE)), True)
        self.assertIs(is_normal(EXP, (rational(0, 1),)), True)
        unit = number_of(below(TWICE), 1, 1)
        self.assertIs(is_normal(TWICE, (((NOUGHT, rational(-1)), (ONE,)), unit)), False)

    def test_wrong_arguments(self):
        for function in (special_part, is_normal, parts_of):
            self.refuses_all(InvalidTower, function, (), NO_TOWERS, (None,))
        for tower in ((), LOG, (("exp", W),), (("log", U), ("exp", U))):
            wrong = [value for value in any_values() if not is_line(below(tower), value)] + [((0, 1),), (1,), [ONE]]
            self.refuses_all(InvalidLine, special_part, (tower,), wrong + [(), (number_of(below(tower), 2, 1),)])
            self.refuses_all(InvalidLine, special_part, (tower,), [(number_of(below(tower), 1, 1), number_of(below(tower), -1, 1))])
            self.refuses_all(InvalidLine, is_normal, (tower,), wrong + [()])
            things = [value for value in any_values() if not is_number(field_of(tower), value)] + [(), ((), ()), (((1, 1),), ((2, 1),))]
            self.refuses_all(InvalidNumber, parts_of, (tower,), things)

    def test_each_name_is_defined_here(self):
        for name in "special_part is_normal parts_of".split():
            self.assertEqual(getattr(parted, name).__module__, "towerback.parted")


if __name__ == "__main__":
    unittest.main()
