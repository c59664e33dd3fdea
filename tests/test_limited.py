"""Points 33 and 98: limited papers."""

import unittest

from tests.support import GREATEST, X, Asks, any_values, chances, changed, random_number
from tests.test_stepparts import powers
from tests.test_towers import U, V, W, rational
from towerback import limited
from towerback.errors import InvalidInner, InvalidNumber, TooMany
from towerback.fieldways import inverse_of, is_number, number_minus, number_of, number_plus, number_times, quotient_of
from towerback.lineways import common_line, divided_lines, slope_of
from towerback.limited import limited_paper, takes_limited
from towerback.rootlifts import constant_of
from towerback.towers import derivative_of

ONE, NOUGHT = rational(1), rational()
INNER = [U, V, W, rational(3, 0, 1), rational(1, 1), (((1, 1), (1, 1)), ((0, 1), (0, 1), (1, 1)))]
NOT_INNER = any_values() + [NOUGHT, ONE, rational(5), (((1, 2),), ((1, 1),)), (), ((), ()), ((1, 1),), (U[0], ((2, 1),)), rational(0, GREATEST + 1)]


def logarithm_slope(inner):
    """Return the derivative of an inner function by it."""
    return number_times(X, derivative_of((), inner), inverse_of(X, inner))


def is_paper(inner, function, value):
    """Tell whether a paper is as told, by the words of the document."""
    word, part, last = value
    if word == "yes":
        left = number_times(X, number_of(X, last[0], last[1]), logarithm_slope(inner))
    else:
        left = last
        if len(left[0]) >= len(left[1]) or len(common_line(0, left[1], slope_of(0, left[1]))) > 1:
            return False
        if constant_of(X, number_times(X, left, inverse_of(X, logarithm_slope(inner)))) is not None:
            return False
    return number_plus(X, derivative_of((), part), left) == function


def functions(chance, inner):
    """Return rational functions: derivatives, such with logarithms of the inner function, and others."""
    found = [NOUGHT, ONE, U, W]
    for number in ((0, 1), (1, 1), (-5, 3)):
        part = random_number(chance, X, 1)
        more = number_times(X, number_of(X, number[0], number[1]), logarithm_slope(inner))
        found += [number_plus(X, derivative_of((), part), more), more, number_plus(X, more, number_times(X, W, ONE)), part]
        found.append(number_plus(X, more, (((1, 1),), ((7, 1), (1, 1)))))
    return [part for part in found if max(map(len, part)) < 8]


class Limited(Asks, unittest.TestCase):
    def test_papers(self):
        words = []
        for seed, inner in enumerate(INNER):
            chance = chances(seed)
            for function in functions(chance, inner):
                paper = limited_paper(inner, function)
                words.append(paper[0])
                self.assertTrue(is_paper(inner, function, paper), (inner, function, paper))
                self.assertIs(takes_limited(inner, function, paper), True)
                quotient = divided_lines(0, paper[1][0], paper[1][1])[0]
                self.assertIn(quotient[:1], ((), ((0, 1),)))
        self.assertGreater(min(words.count("yes"), words.count("no")), 10)

    def test_planted_papers(self):
        chance = chances(98)
        for inner in INNER:
            for number in ((0, 1), (1, 1), (-7, 3), (GREATEST // 9, 7)):
                part = random_number(chance, X, 1)
                more = number_times(X, number_of(X, number[0], number[1]), logarithm_slope(inner))
                function = number_plus(X, derivative_of((), part), more)
                if max(map(len, function)) < 8 and is_number(X, function):
                    word, told, share = limited_paper(inner, function)
                    self.assertEqual((word, share), ("yes", number))
                    self.assertEqual(derivative_of((), told), derivative_of((), part))
                    quotient, rest = divided_lines(0, part[0], part[1])
                    line = ((0, 1),) + quotient[1:] if len(quotient) > 1 else ()
                    self.assertEqual(told, number_plus(X, (line, ((1, 1),)), quotient_of(0, rest, part[1])))

    def test_known_papers(self):
        self.assertEqual(limited_paper(U, W), ("yes", NOUGHT, (1, 1)))
        self.assertEqual(limited_paper(U, ONE), ("yes", U, (0, 1)))
        self.assertEqual(limited_paper(U, NOUGHT), ("yes", NOUGHT, (0, 1)))
        other = (((1, 1),), ((1, 1), (1, 1)))
        self.assertEqual(limited_paper(U, other), ("no", NOUGHT, other))
        self.assertEqual(limited_paper(rational(1, 1), W), ("no", NOUGHT, W))
        # Some poles of the logarithm alone, or with other residues, are not enough.
        double = rational(0, 1, 1)
        self.assertEqual(limited_paper(double, W)[0], "no")
        self.assertEqual(limited_paper(double, number_plus(X, W, other)), ("yes", NOUGHT, (1, 1)))
        self.assertEqual(limited_paper(double, number_minus(X, W, other))[0], "no")

    def test_judge(self):
        for inner, function in ((U, W), (U, ONE), (U, (((1, 1),), ((1, 1), (1, 1)))), (V, rational(0, 5)), (W, logarithm_slope(W))):
            paper = limited_paper(inner, function)
            self.assertIs(takes_limited(inner, function, paper), True)
            for value in any_values():
                self.assertIs(takes_limited(inner, function, value), False)
                for at in range(3):
                    if value != paper[at]:
                        self.assertIs(takes_limited(inner, function, paper[:at] + (value,) + paper[at + 1:]), False)
            for value in changed(paper):
                if takes_limited(inner, function, value):
                    # The constant of b may be any.
                    self.assertEqual((value[0], value[2]), (paper[0], paper[2]))
                    self.assertEqual(derivative_of((), value[1]), derivative_of((), paper[1]))

    def test_papers_that_fit(self):
        great = 10 ** 119
        self.assertIs(takes_limited(U, ONE, ("yes", rational(great, 1), (0, 1))), True)
        self.assertIs(takes_limited(U, W, ("yes", rational(great), (1, 1))), True)
        self.assertIs(takes_limited(U, W, ("yes", NOUGHT, (great, 1))), False)
        self.assertIs(takes_limited(U, W, ("yes", NOUGHT, (2, 2))), False)
        self.assertIs(takes_limited(U, W, ("no", NOUGHT, W)), False)
        self.assertIs(takes_limited(U, ONE, ("no", U, NOUGHT)), False)
        other = (((1, 1),), ((1, 1), (1, 1)))
        self.assertIs(takes_limited(U, other, ("no", rational(-great), other)), True)
        self.assertIs(takes_limited(U, other, ("yes", NOUGHT, (1, 1))), False)
        # What is left must be simple.
        square = (((1, 1),), ((1, 1), (2, 1), (1, 1)))
        self.assertIs(takes_limited(U, square, ("no", NOUGHT, square)), False)
        self.assertIs(takes_limited(U, rational(0, 1), ("no", NOUGHT, rational(0, 1))), False)
        self.assertIs(takes_limited(U, number_plus(X, square, other), ("no", NOUGHT, number_plus(X, square, other))), False)

    def test_limits(self):
        for inner, function in ((powers(7), W), (powers(6), powers(7)), (powers(7), powers(7)), (inverse_of(X, powers(7)), W), (U, inverse_of(X, powers(7)))):
            for call in (limited_paper, takes_limited):
                with self.assertRaises(TooMany) as caught:
                    call(inner, function, *((None,) if call == takes_limited else ()))
                self.assertEqual(caught.exception.limit, 6)
        self.assertEqual(limited_paper(powers(6), powers(6))[0], "yes")
        self.assertEqual(limited_paper(powers(6), W), ("yes", NOUGHT, (1, 6)))

    def test_wrong_arguments(self):
        numbers = [value for value in any_values() if not is_number(X, value)] + [(), ((), ()), (U[0], U[0]), rational(GREATEST + 1)]
        self.refuses_all(InvalidInner, limited_paper, (), NOT_INNER, (None,))
        self.refuses_all(InvalidInner, takes_limited, (), NOT_INNER, (None, None))
        for inner in (U, powers(7)):
            self.refuses_all(InvalidNumber, limited_paper, (inner,), numbers)
            self.refuses_all(InvalidNumber, takes_limited, (inner,), numbers, (None,))

    def test_each_name_is_defined_here(self):
        for name in "limited_paper takes_limited".split():
            self.assertEqual(getattr(limited, name).__module__, "towerback.limited")


if __name__ == "__main__":
    unittest.main()
