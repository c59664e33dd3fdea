"""Points 32 and 97: parts of things of one step."""

import unittest

from tests.support import GREATEST, Asks, any_values, chances, random_line
from tests.test_towers import U, V, W, rational
from towerback import stepparts
from towerback.errors import ByNought, InvalidLine, InvalidNumber, InvalidStep, TooMany
from towerback.fieldways import inverse_of, is_line, is_number, number_of, number_plus, number_power, number_times, quotient_of
from towerback.lineways import common_line
from towerback.stepparts import step_parts, thing_of_parts

X = ("quot", 0)
XX = ("quot", X)
ONE, NOUGHT = rational(1), rational()
T = ((NOUGHT, ONE), (ONE,))
STEPS = [("log", U), ("exp", U), ("log", V), ("exp", W)]
NO_STEPS = any_values() + [("log",), ("sin", U), ["log", U], ("log", rational(3)), ("exp", rational()), ("log", U, U), (U, "log")]


def powers(number):
    """Return a rational function of the degree 6, 7, .. from a number."""
    return (((0, 1),) * number + ((1, 1),), ((1, 1),))


def some_thing(chance):
    """Return some thing of one step, within the limits."""
    while True:
        under = (NOUGHT,) * chance.choice((0, 0, 1, 2)) + random_line(chance, X, 2)
        if under[-1:] not in ((), (NOUGHT,)):
            thing = quotient_of(X, random_line(chance, X, chance.randint(0, 5)), under)
            if all(len(part) < 8 for line in thing for number in line for part in number):
                return thing


def plain_sum(low, row, over, under):
    """Return the sum of the row's numbers times powers of t, and of the quotient."""
    total = quotient_of(X, over, under)
    for at, number in enumerate(row):
        power = number_power(XX, T if low + at >= 0 else inverse_of(XX, T), abs(low + at))
        part = ((number,), (ONE,)) if number != NOUGHT else number_of(XX, 0, 1)
        total = number_plus(XX, total, number_times(XX, part, power))
    return total


class StepParts(Asks, unittest.TestCase):
    def test_parts(self):
        for seed, step in enumerate(STEPS):
            chance = chances(seed)
            for _ in range(40):
                thing = some_thing(chance)
                low, row, over, under = step_parts(step, thing)
                self.assertIs(is_line(X, row) and is_line(X, over) and is_line(X, under), True)
                self.assertEqual(plain_sum(low, row, over, under), thing)
                self.assertLess(len(over), len(under))
                self.assertEqual((under[-1], len(common_line(X, over, under))), (ONE, 1))
                if step[0] == "log":
                    self.assertEqual(low, 0)
                else:
                    self.assertNotEqual(under[0], NOUGHT)
                    self.assertIn(low, range(-4, 1))
                    if low:
                        self.assertNotEqual(row[0], NOUGHT)
                if all(len(line) < 6 for line in (row, over, under)) and short((row, over, under)):
                    self.assertEqual(thing_of_parts(step, low, row, over, under), thing)

    def test_known_parts(self):
        log, exp = ("log", U), ("exp", U)
        self.assertEqual(step_parts(log, ((ONE,), (NOUGHT, ONE))), (0, (), (ONE,), (NOUGHT, ONE)))
        self.assertEqual(step_parts(exp, ((ONE,), (NOUGHT, ONE, ONE))), (-1, (ONE,), (rational(-1),), (ONE, ONE)))
        for step in STEPS:
            self.assertEqual(step_parts(step, number_of(XX, 0, 1)), (0, (), (), (ONE,)))
            self.assertEqual(step_parts(step, T), (0, (NOUGHT, ONE), (), (ONE,)))
        self.assertEqual(step_parts(exp, ((ONE,), (NOUGHT,) * 4 + (ONE,))), (-4, (ONE,), (), (ONE,)))
        self.assertEqual(step_parts(log, ((ONE,), (NOUGHT,) * 4 + (ONE,))), (0, (), (ONE,), (NOUGHT,) * 4 + (ONE,)))
        # Powers below and above 0, with noughts between.
        thing = ((ONE, NOUGHT, NOUGHT, NOUGHT, rational(0, 3)), (NOUGHT, NOUGHT, ONE))
        self.assertEqual(step_parts(exp, thing), (-2, (ONE, NOUGHT, NOUGHT, NOUGHT, rational(0, 3)), (), (ONE,)))

    def test_things_of_parts(self):
        for seed, step in enumerate(STEPS):
            chance = chances(seed + 9)
            for _ in range(30):
                low = chance.randint(-4, 0) if step[0] == "exp" else 0
                row, over, under = (random_line(chance, X, chance.randint(0, 3)) for _ in range(3))
                if under and short((row, over, under)):
                    self.assertEqual(thing_of_parts(step, low, row, over, under), plain_sum(low, row, over, under))
        # The row may begin with noughts, over and under have a common divisor, and the under any last number.
        self.assertEqual(thing_of_parts(("exp", U), -4, (NOUGHT,) * 4 + (ONE,), (NOUGHT, rational(2)), (NOUGHT, rational(4))), ((rational_half(),), (ONE,)))
        self.assertEqual(thing_of_parts(("exp", U), -3, (), (), (ONE,)), number_of(XX, 0, 1))
        self.assertEqual(thing_of_parts(("exp", U), -1, (ONE,), (rational(-1),), (ONE, ONE)), ((ONE,), (NOUGHT, ONE, ONE)))

    def test_limits(self):
        """6 for the step's function comes first, then 4 for lines over X, then 6 for the numbers in them."""
        for kind in ("log", "exp"):
            good, long = (kind, powers(6)), (kind, powers(7))
            five, six = ((NOUGHT,) * 4 + (ONE,), (ONE,)), ((NOUGHT,) * 5 + (ONE,), (ONE,))
            great, fit = ((powers(7),), (ONE,)), ((powers(6),), (ONE,))
            both = ((powers(7),) + (NOUGHT,) * 4 + (ONE,), (ONE,))
            for step, thing, limit in ((long, five, 6), (long, six, 6), (long, great, 6), (good, six, 4), (good, great, 6), (good, both, 4),
                                       (good, ((ONE,), (ONE,) * 6), 4), (good, ((inverse_of(X, powers(7)),), (ONE,)), 6),
                                       (good, ((ONE,), (powers(7), ONE)), 6), ((kind, inverse_of(X, powers(7))), five, 6)):
                self.limited(limit, step_parts, step, thing)
            for thing in (five, fit):
                self.assertEqual(plain_sum(*step_parts(good, thing)), thing)
            line, more = (ONE,) * 5, (ONE,) * 6
            self.assertEqual(plain_sum(0, line, line, line), thing_of_parts(good, 0, line, line, line))
            for at in range(3):
                for step, value, limit in ((good, more, 4), (long, more, 6), (good, (powers(7),), 6), (long, (powers(7),), 6)):
                    arguments = [line] * 3
                    arguments[at] = value
                    self.limited(limit, thing_of_parts, step, 0, *arguments)
            self.limited(4, thing_of_parts, good, 0, (powers(7),), (ONE,), more)
            self.refused(ByNought, thing_of_parts, long, 0, more, (powers(7),), ())
            self.refused(InvalidLine, thing_of_parts, long, 0, more, more, None)
            self.refused(InvalidNumber, step_parts, long, None)

    def limited(self, limit, function, *arguments):
        """Ask that a call raises TooMany with a limit."""
        with self.assertRaises(TooMany) as caught:
            function(*arguments)
        self.assertEqual(caught.exception.limit, limit, arguments)

    def test_wrong_arguments(self):
        for value in NO_STEPS:
            self.refused(InvalidStep, step_parts, value, None)
            self.refused(InvalidStep, thing_of_parts, value, None, None, None, None)
        things = [value for value in any_values() if not is_number(XX, value)] + [(), ((), ()), U, ((ONE,), (rational(2),)), T + (1,)]
        lines = [value for value in any_values() if not is_line(X, value)] + [(NOUGHT,), ONE, [ONE], (rational(GREATEST + 1),)]
        for step in STEPS:
            self.refuses_all(InvalidNumber, step_parts, (step,), things)
            lows = any_values() + [1, -5] + ([-1, -4] if step[0] == "log" else [])
            self.refuses_all(InvalidNumber, thing_of_parts, (step,), lows, (None, None, None))
            self.refuses_all(InvalidLine, thing_of_parts, (step, 0), lines, (None, ()))
            self.refuses_all(InvalidLine, thing_of_parts, (step, 0, ()), lines, (None,))
            self.refuses_all(InvalidLine, thing_of_parts, (step, 0, (), ()), lines)
            self.refused(ByNought, thing_of_parts, step, 0, (), (), ())

    def test_each_name_is_defined_here(self):
        for name in "step_parts thing_of_parts".split():
            self.assertEqual(getattr(stepparts, name).__module__, "towerback.stepparts")


def rational_half():
    """Return three halves: one, and a half of another quotient."""
    return ((3, 2),), ((1, 1),)


def short(lines):
    """Tell whether all lines in the numbers of lines over X have at most the degree 6."""
    return all(len(part) < 8 for line in lines for number in line for part in number)


if __name__ == "__main__":
    unittest.main()
