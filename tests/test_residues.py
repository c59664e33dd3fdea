"""Points 25 and 90: residues of quotients."""

import unittest

from tests.support import GREATEST, Asks, any_values, chances, random_number, trimmed
from tests.test_rootsums import NO_TOWERS
from tests.test_towers import TOWERS, rational
from towerback import residues
from towerback.errors import InvalidLine, InvalidTower, NotNormal, NotProper
from towerback.fieldways import inverse_of, is_line, number_of, number_times
from towerback.lineways import common_line, divided_lines, line_times
from towerback.residues import residue_flaw, residue_line
from towerback.rootlifts import constant_of
from towerback.rootthings import full_line
from towerback.towers import derivative_of, field_of, lifted_thing

LOG, EXP, TWICE = TOWERS[1], TOWERS[2], TOWERS[7]


def below(tower):
    """Return the field below the last unknown: 0 for x."""
    return field_of(tower)[1]


def slope_in(tower, line):
    """Return the derivative of a line in the last unknown of a tower."""
    over, under = derivative_of(tower, (line, (number_of(below(tower), 1, 1),)))
    assert len(under) == 1
    return over


def is_quotient(tower, over, under):
    """Tell whether two lines are a quotient, by the words of the document."""
    if not 2 <= len(under) <= 13 or under[-1] != number_of(below(tower), 1, 1) or len(over) >= len(under):
        return False
    return len(common_line(below(tower), under, slope_in(tower, under))) == 1


def small_number(chance, field):
    """Return some number of the field below a last unknown: a constant more often than not."""
    if field == 0 or chance.random() < 0.5:
        return number_of(field, chance.randint(-3, 3), chance.choice((1, 1, 2)))
    return random_number(chance, field, 1)


def some_line(chance, field, many):
    """Return some line of so many numbers at most."""
    return trimmed(field, [small_number(chance, field) for _ in range(many)])


def quotients(tower, many, seed=0, longest=4):
    """Return some quotients of a tower."""
    chance, field = chances(seed), below(tower)
    found = []
    while len(found) < many:
        degree = chance.randint(1, longest)
        under = tuple(small_number(chance, field) for _ in range(degree)) + (number_of(field, 1, 1),)
        over = some_line(chance, field, degree)
        if is_quotient(tower, over, under):
            found.append((over, under))
    return found


class Residues(Asks, unittest.TestCase):
    def test_residue_lines(self):
        """The residue line is the full line of the over by the derivative of the under."""
        for seed, tower in enumerate(TOWERS[:8]):
            field = below(tower)
            for over, under in quotients(tower, 12 if len(tower) < 2 else 4, seed, 4 if len(tower) < 2 else 2):
                root = ("root", field, under)
                slope = divided_lines(field, slope_in(tower, under), under)[1]
                number = number_times(root, over, inverse_of(root, slope))
                line = residue_line(tower, over, under)
                self.assertEqual(line, full_line(root, number), (tower, over, under))
                flaws = [at for at, part in enumerate(line) if constant_of(field, part) is None]
                self.assertEqual(residue_flaw(tower, over, under), min(flaws, default=None))
                if tower == ():
                    self.assertEqual(flaws, [])

    def test_known_lines(self):
        self.assertEqual(residue_line((), ((1, 1),), ((1, 1), (0, 1), (1, 1))), ((1, 4), (0, 1), (1, 1)))
        # The derivative of a line by the line has residues that are ones.
        for under in (((1, 1), (2, 1), (0, 1), (1, 1)), ((-2, 1),) + ((0, 1),) * 11 + ((1, 1),)):
            line = residue_line((), slope_in((), under), under)
            power = ((1, 1),)
            for _ in under[1:]:
                power = line_times(0, power, ((-1, 1), (1, 1)))
            self.assertEqual(line, power)
        self.assertEqual(residue_line((), (), ((5, 1), (3, 1), (1, 1))), ((0, 1), (0, 1), (1, 1)))
        self.assertEqual(residue_line((), ((GREATEST, 1),), ((7, 1), (1, 1))), ((-GREATEST, 1), (1, 1)))

    def test_steps(self):
        one, t = rational(1), (rational(), rational(1))
        # 1 / log(x) has the residue x, (1/x) / log(x) the residue 1; 1 / (exp(x) + 1) the residue -1.
        self.assertEqual(residue_line(LOG, (one,), t), (rational(0, -1), one))
        self.assertEqual(residue_flaw(LOG, (one,), t), 0)
        self.assertEqual(residue_line(LOG, ((((1, 1),), ((0, 1), (1, 1))),), t), (rational(-1), one))
        self.assertIsNone(residue_flaw(LOG, ((((1, 1),), ((0, 1), (1, 1))),), t))
        self.assertEqual(residue_line(EXP, (one,), (one, one)), (one, one))
        # A flaw that is not at 0: 1 / log(x), over and under times log(x) - 1, has the residues 0 and x.
        x = rational(0, 1)
        line = line_times(("quot", 0), t, (rational(-1), one))
        over = (rational(-1), one)
        self.assertEqual(residue_line(LOG, over, line), (rational(), rational(0, -1), one))
        self.assertEqual(residue_flaw(LOG, over, line), 1)
        two = TOWERS[5]
        lifted = lifted_thing(two[:1], x)
        unit = number_of(field_of(two)[1], 1, 1)
        self.assertIsNotNone(residue_flaw(two, (lifted,), (unit, unit)))

    def test_degrees(self):
        twelve, thirteen = ((1, 1),) + ((0, 1),) * 11 + ((1, 1),), ((1, 1),) + ((0, 1),) * 12 + ((1, 1),)
        self.assertEqual(len(residue_line((), ((1, 1),), twelve)), 13)
        for function in (residue_line, residue_flaw):
            self.refused(NotProper, function, (), ((1, 1),), thirteen)
            self.refused(NotProper, function, (), ((1, 1),), ((1, 1),))
            self.refused(NotProper, function, (), (), ((1, 1),))
            self.refused(NotProper, function, (), (), ())
            self.refused(NotProper, function, (), ((1, 1),), ((1, 1), (2, 1)))
            self.refused(NotProper, function, (), ((1, 1), (1, 1)), ((1, 1), (1, 1)))
            self.refused(NotProper, function, (), ((1, 1),) * 3, ((1, 1), (1, 1)))
            # Not proper comes ahead of not normal.
            self.refused(NotProper, function, (), ((1, 1),) * 3, ((1, 1), (2, 1), (1, 1)))
            self.refused(NotNormal, function, (), ((1, 1),), ((1, 1), (2, 1), (1, 1)))
            self.refused(NotNormal, function, (), (), ((0, 1), (0, 1), (1, 1)))

    def test_unders_that_are_not_normal(self):
        one, nought = rational(1), rational()
        for function in (residue_line, residue_flaw):
            # The unknown of an exponential divides its own derivative, that of a logarithm does not.
            self.refused(NotNormal, function, EXP, (one,), (nought, one))
            self.refused(NotNormal, function, EXP, (one,), (nought, one, one))
            self.refused(NotNormal, function, LOG, (one,), (nought, nought, one))
            # The difference of two logarithms of one function has the derivative nought.
            field = field_of(TWICE)[1]
            unit = number_of(field, 1, 1)
            first = ((nought, rational(-1)), (one,))
            self.refused(NotNormal, function, TWICE, (unit,), (first, unit))
        self.assertEqual(len(residue_line(LOG, (one,), (nought, one))), 2)

    def test_wrong_arguments(self):
        for function in (residue_line, residue_flaw):
            self.refuses_all(InvalidTower, function, (), NO_TOWERS, (None, None))
            for tower in ((), LOG, TOWERS[5]):
                field = below(tower)
                wrong = [value for value in any_values() if not is_line(field, value)] + [((0, 1),), (1,), [(1, 1)]]
                self.refuses_all(InvalidLine, function, (tower,), wrong, (None,))
                self.refuses_all(InvalidLine, function, (tower, ()), wrong)
            self.refused(InvalidLine, function, LOG, ((1, 1),), ())
            self.refused(InvalidLine, function, (), ((GREATEST + 1, 1),), ((1, 1), (1, 1)))

    def test_each_name_is_defined_here(self):
        for name in "residue_line residue_flaw".split():
            self.assertEqual(getattr(residues, name).__module__, "towerback.residues")


if __name__ == "__main__":
    unittest.main()
