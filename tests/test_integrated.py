"""Points 48 and 114: answers."""

import unittest

from tests.risch_by_trial import great_plus, short_thing, some_thing
from tests.support import GREATEST, X, Asks, any_values, chances, random_number
from tests.test_onestep import OTHERS
from tests.test_rootsums import NO_TOWERS
from tests.test_severals import plain_system
from tests.test_spreads import SPREAD_TOWERS, product_of, some_rows, thing_of
from tests.test_stepparts import powers
from tests.test_termled import EXP, LOG, THREE, unknown
from tests.test_towers import TOWERS, U, W, rational
from towerback import integrated as module
from towerback.errors import InvalidNumber, InvalidTower, TooMany
from towerback.fieldways import inverse_of, is_number, number_plus, quotient_of
from towerback.integrated import integrated, slope_and_back
from towerback.judge import takes
from towerback.onestep import one_step_paper
from towerback.rational import integral_of
from towerback.rootsums import sums_derived
from towerback.spreads import spread_of
from towerback.systems import takes_solved
from towerback.towers import derivative_of, field_of, last_unknown, lifted_thing

ONE, NOUGHT = rational(1), rational()
JT = (LOG, EXP)


def poles(first, many):
    """Return the sum of one by x less each of some integers."""
    total = NOUGHT
    for at in range(first, first + many):
        total = number_plus(X, total, quotient_of(0, ((1, 1),), ((-at, 1), (1, 1))))
    return total


class Integrated(Asks, unittest.TestCase):
    def limited(self, limit, function, *arguments):
        """Ask that a call raises TooMany with a limit."""
        with self.assertRaises(TooMany) as caught:
            function(*arguments)
        self.assertEqual(caught.exception.limit, limit)

    def told(self, tower, thing, answer):
        """Ask that an answer for a thing is as told, by the words of the document."""
        if answer[0] == "yes":
            self.assertEqual(great_plus(tower, answer[1], answer[2]), thing, (tower, thing))
            self.assertLessEqual(len(answer[2]), 16)
        elif answer[0] == "no":
            self.assertEqual((len(tower), answer[1][0]), (1, "no"))
        else:
            self.assertGreater(len(tower), 1)
            spread = spread_of(tower, thing)
            if spread is None:
                self.assertEqual(answer, ("open", None))
            else:
                _, table, right = plain_system(tower, thing)
                self.assertEqual((answer[0], len(answer[1])), ("open", len(right)))
                self.assertIs(takes_solved(0, table, right, ("none", answer[1])), True)
        if is_number(field_of(tower), thing):
            self.assertIs(takes(tower, thing, answer), True, (tower, thing, answer))

    def test_rational_functions(self):
        chance = chances(114)
        for _ in range(60):
            thing = random_number(chance, X, 4)
            answer = integrated((), thing)
            self.assertEqual(answer, ("yes",) + integral_of(thing))
            self.told((), thing, answer)
        self.assertEqual(integrated((), NOUGHT), ("yes", NOUGHT, ()))

    def test_one_step(self):
        words = set()
        for seed, step in enumerate(OTHERS):
            chance = chances(seed)
            for _ in range(12):
                thing = chance.choice((some_thing(chance), great_plus((step,), some_thing(chance, 2, 1), ())))
                if not short_thing(thing):
                    continue
                try:
                    paper = one_step_paper(step, thing)
                except TooMany:
                    self.limited(12, integrated, (step,), thing)
                    continue
                answer = integrated((step,), thing)
                words.add(answer[0])
                self.assertEqual(answer, paper if paper[0] == "yes" else ("no", paper))
                self.told((step,), thing, answer)
        self.assertEqual(words, {"yes", "no"})

    def test_several_steps(self):
        """Of derivatives with a told system that has them, a "yes"; else what is as told."""
        words = []
        for seed, tower in enumerate(tower for tower in SPREAD_TOWERS if len(tower) > 1):
            chance = chances(seed)
            for turn in range(14):
                own = thing_of(tower, some_rows(chance, tower, chance.randint(0, 2), 1))
                if not is_number(field_of(tower), own):
                    continue
                thing = own if turn % 2 else great_plus(tower, own, ())
                if not is_number(field_of(tower), thing):
                    continue
                try:
                    system = plain_system(tower, thing)
                    if max(len(system[0]), len(system[1])) > 40:
                        self.limited(40, integrated, tower, thing)
                        continue
                    answer = integrated(tower, thing)
                except TooMany as error:
                    self.assertEqual(error.limit, 12)
                    continue
                words.append(answer[0])
                self.told(tower, thing, answer)
        self.assertGreater(words.count("yes"), 15)
        self.assertGreater(words.count("open"), 3)

    def test_planted_in_several_steps(self):
        """Functions with exponentials, logarithms and root sums, planted as derivatives."""
        done = 0
        for tower in (JT, (EXP, LOG), THREE, (LOG, ("exp", rational(0, 0, -1)), ("log", rational(1, 1)))):
            chance, field = chances(len(tower)), field_of(tower)
            for _ in range(8):
                rows = {}
                for _ in range(2):
                    exponents = tuple(chance.randint(0, 1) if sort == "log" else chance.randint(-1, 1) for sort, _ in tower)
                    rows[exponents] = rational(chance.randint(1, 5), chance.randint(0, 3)) if chance.randrange(2) else W
                own = thing_of(tower, sorted((row, clean(function)) for row, function in rows.items()))
                sums = ((((chance.randint(1, 4), 1), (1, 1)), (lifted_thing(tower, rational(7, 1)),)),)
                thing = number_plus(field, derivative_of(tower, own), sums_derived(tower, sums))
                try:
                    answer = integrated(tower, thing)
                except TooMany as error:
                    self.assertEqual(error.limit, 40)
                    continue
                done += 1
                self.assertEqual(answer[0], "yes", (tower, own))
                self.told(tower, thing, answer)
        self.assertGreater(done, 20)

    def test_known_answers(self):
        self.assertEqual(integrated((), U), ("yes", (((0, 1), (0, 1), (1, 2)), ((1, 1),)), ()))
        self.assertEqual(integrated(JT, last_unknown(JT)), ("yes", last_unknown(JT), ()))
        self.assertEqual(integrated(JT, lifted_thing(JT, NOUGHT)), ("yes", lifted_thing(JT, NOUGHT), ()))
        answer = integrated(JT, lifted_thing(JT, W))
        self.told(JT, lifted_thing(JT, W), answer)
        self.assertEqual(answer[0], "yes")
        self.assertEqual(integrated((EXP,), ((NOUGHT, W), (ONE,)))[1][2][:2], ("power", 1))
        # The logarithm times the exponential: the system has no solution.
        thing = product_of(JT, (1, 1), ONE)
        answer = integrated(JT, thing)
        self.assertEqual(answer[0], "open")
        self.told(JT, thing, answer)
        # With the exponential by x it is the derivative of their product.
        field = field_of(JT)
        thing = number_plus(field, thing, product_of(JT, (0, 1), W))
        self.assertEqual(integrated(JT, thing), ("yes", product_of(JT, (1, 1), ONE), ()))
        # No spread.
        under = number_plus(field, unknown(JT, 0), unknown(JT, 1))
        self.assertEqual(integrated(JT, inverse_of(field, under)), ("open", None))
        self.assertEqual(integrated(JT, inverse_of(field, unknown(JT, 0))), ("open", None))
        # Logarithms at noughts alone, of one root and of several.
        thing = lifted_thing(JT, number_plus(X, W, quotient_of(0, ((1, 1),), ((1, 1), (0, 1), (1, 1)))))
        answer = integrated(JT, thing)
        self.assertEqual((answer[0], sorted(len(line) for line, _ in answer[2])[-1]), ("yes", 3))
        self.told(JT, thing, answer)
        # A power below 0 of an exponential, and a logarithm one time more than the thing has.
        self.assertEqual(integrated(JT, product_of(JT, (0, -1), ONE)), ("yes", product_of(JT, (0, -1), rational(-1)), ()))
        thing = product_of(JT, (1, 0), W)
        self.assertEqual(integrated(JT, thing), ("yes", product_of(JT, (2, 0), (((1, 2),), ((1, 1),))), ()))

    def test_slopes_and_back(self):
        words = []
        for seed, tower in enumerate(TOWERS[:8] + [(step,) for step in OTHERS]):
            chance = chances(seed)
            for _ in range(8):
                thing = random_number(chance, field_of(tower), 2 if len(tower) < 2 else 1)
                try:
                    slope, answer = slope_and_back(tower, thing)
                except TooMany as error:
                    self.assertIn(error.limit, (12,) if len(tower) < 2 else (12, 40))
                    continue
                self.assertEqual(slope, derivative_of(tower, thing))
                self.told(tower, slope, answer)
                words.append((min(2, len(tower)), answer[0]))
        self.assertEqual(set(words) - {(2, "open")}, {(0, "yes"), (1, "yes"), (2, "yes")})

    def test_great_slopes_and_back(self):
        """Beyond the limits 4 and 6 there is an answer for a derivative, a "yes" up to one step."""
        long = quotient_of(0, ((3, 1),) + ((0, 1),) * 8 + ((1, 1),), ((1, 1), (0, 1), (0, 1), (0, 1), (0, 1), (0, 1), (0, 1), (2, 1)))
        cases = []
        for step in (LOG, EXP, ("exp", powers(8)), ("log", rational(1, 1)), ("exp", inverse_of(X, powers(7)))):
            line = (ONE, NOUGHT, NOUGHT, U, NOUGHT, NOUGHT, rational(2, 1), NOUGHT, ONE)
            cases.append(((step,), (line, (ONE,))))
            cases.append(((step,), ((U,), (rational(3), NOUGHT, NOUGHT, NOUGHT, U, NOUGHT, ONE))))
            cases.append(((step,), ((long,), (ONE,))))
            cases.append(((step,), ((NOUGHT, long), (ONE,))))
            cases.append(((step,), ((rational(1, 1), NOUGHT, W), ((NOUGHT,) * 6 + (ONE,)))))
        for tower, thing in cases:
            slope, answer = slope_and_back(tower, thing)
            self.assertEqual((slope, answer[0]), (derivative_of(tower, thing), "yes"))
            self.assertEqual(great_plus(tower, answer[1], answer[2]), slope)
            if is_number(field_of(tower), slope) and not short_thing(slope):
                with self.assertRaises(TooMany):
                    integrated(tower, slope)
        # A tower of two steps has the limit 40.
        self.limited(40, slope_and_back, JT, product_of(JT, (0, 1), rational(*[0] * 40, 1)))
        slope, answer = slope_and_back(JT, product_of(JT, (0, 1), rational(*[0] * 20, 1)))
        self.assertEqual(answer, ("yes", product_of(JT, (0, 1), rational(*[0] * 20, 1)), ()))
        # Whatever has no spread is open, though it is a derivative.
        self.assertEqual(slope_and_back(JT, inverse_of(field_of(JT), unknown(JT, 0)))[1], ("open", None))

    def test_limits(self):
        five, six = ((NOUGHT,) * 4 + (ONE,), (ONE,)), ((NOUGHT,) * 5 + (ONE,), (ONE,))
        for kind in ("log", "exp"):
            good, long = ((kind, powers(6)),), ((kind, powers(7)),)
            self.limited(6, integrated, long, six)
            self.limited(4, integrated, good, six)
            self.limited(4, integrated, good, ((powers(7),) + (NOUGHT,) * 4 + (ONE,), (ONE,)))
            self.limited(6, integrated, good, ((powers(7),), (ONE,)))
            self.assertIn(integrated(good, five)[0], ("yes", "no"))
        self.limited(12, integrated, (), poles(1, 13))
        self.assertEqual(integrated((), poles(1, 12))[0], "yes")
        self.limited(12, integrated, (("log", poles(1, 6)),), ((poles(40, 6), derivative_of((), poles(-5, 3))), (ONE,)))
        self.limited(40, integrated, JT, product_of(JT, (0, 1), rational(*[0] * 39, 1)))
        self.limited(40, integrated, THREE, product_of(THREE, (3, 0, 3), U))
        self.limited(12, integrated, JT, lifted_thing(JT, poles(1, 13)))
        # Towers of two steps know no limits for lines.
        self.assertEqual(integrated((LOG, ("exp", powers(7))), lifted_thing(JT, powers(10)))[0], "yes")

    def test_wrong_arguments(self):
        for call in (integrated, slope_and_back):
            self.refuses_all(InvalidTower, call, (), NO_TOWERS, (None,))
            for tower in TOWERS:
                values = [value for value in any_values() if not is_number(field_of(tower), value)] + [rational(GREATEST + 1), (U[0], U[0])]
                self.refuses_all(InvalidNumber, call, (tower,), values)
            self.refused(InvalidNumber, call, (("log", powers(7)),), None)

    def test_each_name_is_defined_here(self):
        for name in "integrated slope_and_back".split():
            self.assertEqual(getattr(module, name).__module__, "towerback.integrated")


def clean(function):
    """Return a rational function without noughts at the end of its over."""
    over = list(function[0])
    while over and over[-1] == (0, 1):
        over.pop()
    return tuple(over), function[1]


if __name__ == "__main__":
    unittest.main()
