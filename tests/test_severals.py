"""Points 47 and 113: told systems."""

import itertools
import unittest

from tests.support import GREATEST, X, Asks, any_values, chances
from tests.test_rootsums import NO_TOWERS
from tests.test_spreads import SPREAD_TOWERS, product_of, some_rows, thing_of
from tests.test_termled import EXP, LOG, THREE, unknown
from tests.test_towers import TOWERS, U, V, W, rational
from towerback import severals
from towerback.errors import InvalidNumber, InvalidTower, TooMany
from towerback.fieldways import inverse_of, is_number, number_plus, quotient_of
from towerback.lineways import common_line, divided_lines, line_times, monic_line, slope_of
from towerback.severals import told_system
from towerback.spreads import spread_of
from towerback.towers import derivative_of, field_of, last_unknown, lifted_thing

ONE, NOUGHT = rational(1), rational()
JT = (LOG, EXP)


def least_multiple(lines):
    """Return the monic least common multiple of lines over 0."""
    total = ((1, 1),)
    for line in lines:
        total = monic_line(0, line_times(0, total, divided_lines(0, line, common_line(0, total, line))[0]))
    return total


def plain_columns(tower, spread):
    """Return the columns, by the words of the document."""
    if not spread:
        return ()
    under = least_multiple([function[1] for _, function in spread])
    shared = common_line(0, under, slope_of(0, under)) if len(under) > 1 else under
    excess = max((len(over) - 1) - (len(below) - 1) for _, (over, below) in spread)
    longest = len(shared) - 1 + max(0, 1 + excess)
    exps = [at for at, step in enumerate(tower) if step[0] == "exp"]
    tried = set()
    for exponents, _ in spread:
        row = [exponents[at] for at in exps]
        ranges = []
        for at, (sort, _) in enumerate(tower):
            same = [other[at] for other, _ in spread if [other[k] for k in exps] == row]
            ranges.append([exponents[at]] if sort == "exp" else range(max(same) + 1 + (0 if any(row) else 1)))
        tried.update(itertools.product(*ranges))
    powers = [quotient_of(0, ((0, 1),) * power + ((1, 1),), shared) for power in range(longest + 1)]
    return tuple((exponents, power) for exponents in sorted(tried) for power in powers)


def plain_system(tower, thing):
    """Return the told system, by the words of the document, with derivatives of things of the tower."""
    spread = spread_of(tower, thing)
    columns = plain_columns(tower, spread)
    slopes = [dict(spread_of(tower, derivative_of(tower, product_of(tower, *column)))) for column in columns] + [dict(spread)]
    table, right = [], []
    for exponents in sorted(set(key for slope in slopes for key in slope)):
        if any(exponents):
            functions = [slope.get(exponents, NOUGHT) for slope in slopes]
            under = least_multiple([function[1] for function in functions])
            lines = [line_times(0, over, divided_lines(0, under, below)[0]) for over, below in functions]
            for power in range(max(map(len, lines))):
                row = [line[power] if power < len(line) else (0, 1) for line in lines]
                table.append(tuple(row[:-1]))
                right.append(row[-1])
    return columns, tuple(table), tuple(right)


class Severals(Asks, unittest.TestCase):
    def limited(self, *arguments):
        """Ask that a call raises TooMany with the limit 40."""
        with self.assertRaises(TooMany) as caught:
            told_system(*arguments)
        self.assertEqual(caught.exception.limit, 40)

    def test_systems(self):
        done = 0
        for seed, tower in enumerate(SPREAD_TOWERS + [()]):
            chance = chances(seed)
            for _ in range(12):
                thing = thing_of(tower, some_rows(chance, tower, chance.randint(0, 2), 1))
                if not is_number(field_of(tower), thing):
                    continue
                told = plain_columns(tower, spread_of(tower, thing))
                if len(told) > 40:
                    self.limited(tower, thing)
                    continue
                told = plain_system(tower, thing)
                if len(told[1]) > 40:
                    self.limited(tower, thing)
                else:
                    done += 1
                    self.assertEqual(told_system(tower, thing), told, (tower, thing))
        self.assertGreater(done, 70)

    def test_known_systems(self):
        columns, table, right = told_system(JT, last_unknown(JT))
        self.assertEqual(columns, (((0, 1), ONE), ((0, 1), U)))
        self.assertEqual((table, right), ((((1, 1), (1, 1)), ((0, 1), (1, 1))), ((1, 1), (0, 1))))
        # Nought has no columns; a rational function of a tower without logarithms no rows.
        for tower in TOWERS:
            self.assertEqual(told_system(tower, lifted_thing(tower, NOUGHT)), ((), (), ()))
        self.assertEqual(told_system((EXP,), lifted_thing((EXP,), ONE)), ((((0,), ONE), ((0,), U)), (), ()))
        self.assertEqual(told_system((), U), ((((), ONE), ((), U), ((), rational(0, 0, 1))), (), ()))
        # At noughts alone each logarithm is tried one time more often.
        columns, table, right = told_system((LOG,), lifted_thing((LOG,), ONE))
        self.assertEqual(columns, (((0,), ONE), ((0,), U), ((1,), ONE), ((1,), U)))
        self.assertEqual((table, right), ((((0, 1), (0, 1), (0, 1), (1, 1)),), ((0, 1),)))
        columns = told_system(JT, product_of(JT, (2, 1), ONE))[0]
        self.assertEqual([exponents for exponents, _ in columns], [(0, 1)] * 2 + [(1, 1)] * 2 + [(2, 1)] * 2)
        columns = told_system(JT, product_of(JT, (1, 0), W))[0]
        self.assertEqual(columns, tuple(((at, 0), ONE) for at in range(3)))
        # Each row of exponents of exponentials has its own logarithms.
        thing = number_plus(field_of(JT), product_of(JT, (1, -1), ONE), product_of(JT, (0, 2), ONE))
        self.assertEqual(sorted(set(exponents for exponents, _ in told_system(JT, thing)[0])), [(0, -1), (0, 2), (1, -1)])
        # V has each part of U one time less.
        square = quotient_of(0, ((1, 1),), ((0, 1), (0, 1), (1, 1), (1, 1)))
        columns = told_system(JT, product_of(JT, (0, 1), square))[0]
        self.assertEqual(columns, (((0, 1), W), ((0, 1), ONE)))
        self.assertEqual(told_system(JT, product_of(JT, (0, 1), rational(0, 0, 1)))[0], tuple(((0, 1), rational(*[0] * at, 1)) for at in range(4)))
        self.assertEqual(len(told_system(JT, product_of(JT, (0, 1), V))[0]), 3)

    def test_no_spread(self):
        for tower in SPREAD_TOWERS:
            field = field_of(tower)
            for at, (sort, _) in enumerate(tower):
                more = number_plus(field, unknown(tower, at), lifted_thing(tower, ONE))
                self.assertIsNone(told_system(tower, inverse_of(field, more)))
                if sort == "log":
                    self.assertIsNone(told_system(tower, inverse_of(field, unknown(tower, at))))

    def test_limits(self):
        """40 columns and 41, then 40 rows and 41."""
        for many, fits in ((38, True), (39, False)):
            thing = product_of(JT, (0, 1), rational(*[0] * many, 1))
            if fits:
                columns, table, right = told_system(JT, thing)
                self.assertEqual((len(columns), len(table), len(right)), (40, 40, 40))
            else:
                self.limited(JT, thing)
        # Few columns, many rows: the unders of the steps, and the right side, are long.
        for many in (37, 38, 39, 40):
            tower = (LOG, ("exp", inverse_of(X, rational(*[0] * many, 1))))
            thing = product_of(tower, (0, 1), ONE)
            self.assertEqual(len(plain_columns(tower, spread_of(tower, thing))), 2)
            if many < 39:
                self.assertEqual(len(told_system(tower, thing)[1]), many + 2)
            else:
                self.limited(tower, thing)
        # Many columns, few rows, with one row of exponents that is tried and with two.
        for tower, many in (((EXP, ("exp", W)), 38), (JT, 18)):
            columns, table, _ = told_system(tower, lifted_thing(tower, rational(*[0] * many, 1)))
            self.assertEqual(len(columns), 40)
            self.assertLess(len(table), 30)
            self.limited(tower, lifted_thing(tower, rational(*[0] * (many + 1), 1)))
        # However great the exponents are.
        self.limited(THREE, product_of(THREE, (30, 1, 30), ONE))
        self.limited(JT, product_of(JT, (30, 0), ONE))

    def test_wrong_arguments(self):
        self.refuses_all(InvalidTower, told_system, (), NO_TOWERS, (None,))
        for tower in TOWERS:
            values = [value for value in any_values() if not is_number(field_of(tower), value)] + [rational(GREATEST + 1), (U[0], U[0])]
            self.refuses_all(InvalidNumber, told_system, (tower,), values)

    def test_each_name_is_defined_here(self):
        self.assertEqual(severals.told_system.__module__, "towerback.severals")


if __name__ == "__main__":
    unittest.main()
