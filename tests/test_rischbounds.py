"""Points 34 and 99: the reduced equation of Risch's equation."""

import unittest

from tests.risch_by_trial import INNER, NOT_INNER, left_side, plain_equation, short_function, some_function
from tests.support import GREATEST, X, Asks, any_values, chances
from tests.test_stepparts import NOUGHT, ONE, powers
from tests.test_towers import U, W, rational
from towerback import rischbounds
from towerback.errors import InvalidInner, InvalidNumber, TooMany
from towerback.fieldways import inverse_of, is_number, quotient_of
from towerback.rischbounds import reduced_equation, under_bound


def case_of(equation):
    """Return which of the three cases a reduced equation is."""
    i, j = len(equation[1]) - 1, len(equation[2]) - 1
    return "equal" if j == i - 1 else "above" if j > i - 1 else "below"


class RischBounds(Asks, unittest.TestCase):
    def test_equations(self):
        """As told word by word, of planted and of other right sides, in each of the three cases."""
        cases = set()
        for seed, inner in enumerate(INNER):
            chance = chances(seed)
            for _ in range(25):
                for function in (some_function(chance), left_side(inner, some_function(chance))):
                    if short_function(function):
                        told = reduced_equation(inner, function)
                        self.assertEqual(told, plain_equation(inner, function), (inner, function))
                        self.assertEqual(under_bound(inner, function), told[0])
                        cases.add(case_of(told))
        self.assertEqual(cases, {"above", "below", "equal"})

    def test_solutions_are_within_the_bounds(self):
        for seed, inner in enumerate(INNER):
            chance = chances(seed + 50)
            for _ in range(25):
                solution = some_function(chance)
                function = left_side(inner, solution)
                if short_function(function):
                    under, _, _, _, most = reduced_equation(inner, function)
                    if solution[0]:
                        self.assertEqual(solution[1], under)
                    self.assertLessEqual(len(solution[0]) - 1, most)

    def test_known_equations(self):
        one = ((1, 1),)
        self.assertEqual(reduced_equation(U, NOUGHT), (one, one, one, (), -1))
        self.assertEqual(reduced_equation(U, ONE), (one, one, one, one, 0))
        self.assertEqual(reduced_equation(U, W), (one, ((0, 1), (1, 1)), ((0, 1), (1, 1)), one, -1))
        # j > i - 1: the degree of the solution is that of c less that of b.
        self.assertEqual(reduced_equation(rational(0, 0, 1), rational(0, 0, 0, 1))[4], 2)
        # j < i - 1: D w alone has a high under, and e is one.
        inner = inverse_of(X, U)
        self.assertEqual(reduced_equation(inner, ONE), (one, ((0, 1), (0, 1), (1, 1)), ((-1, 1),), ((0, 1), (0, 1), (1, 1)), 1))
        self.assertEqual(reduced_equation(inner, inverse_of(X, powers(4)))[4], 2)
        # j = i - 1: b's last number taken the other way is an integer, above k - j or not.
        square = quotient_of(0, one, ((1, 1), (2, 1), (1, 1)))
        self.assertEqual(reduced_equation(inner, square), (((1, 1), (1, 1)), ((0, 1), (0, 1), (1, 1), (1, 1)), ((-1, 1), (-1, 1), (-1, 1)), ((0, 1), (0, 1), (1, 1)), 1))
        cube = quotient_of(0, one, ((1, 1), (3, 1), (3, 1), (1, 1)))
        self.assertEqual(reduced_equation(inner, cube)[4], 2)
        # The least degree of a solution with j < i - 1 is 0, with a c of low degree.
        self.assertEqual(reduced_equation(inner, quotient_of(0, one, ((0, 1), (0, 1), (1, 1))))[4], 0)

    def test_unders(self):
        # Poles of g that w has not lose one time, those that w has as many as D w has.
        self.assertEqual(under_bound(U, inverse_of(X, powers(3))), ((0, 1), (0, 1), (1, 1)))
        self.assertEqual(under_bound(W, inverse_of(X, powers(3))), ((0, 1), (1, 1)))
        self.assertEqual(under_bound(W, inverse_of(X, powers(2))), ((1, 1),))
        self.assertEqual(under_bound(inverse_of(X, powers(2)), inverse_of(X, powers(5))), ((0, 1), (0, 1), (1, 1)))
        both = quotient_of(0, ((1, 1),), ((0, 1), (0, 1), (0, 1), (1, 1), (2, 1), (1, 1)))
        self.assertEqual(under_bound(W, both), ((0, 1), (1, 1), (1, 1)))
        self.assertEqual(under_bound(U, U), ((1, 1),))

    def test_limits(self):
        for inner, function in ((powers(7), W), (powers(6), powers(7)), (inverse_of(X, powers(7)), W), (U, inverse_of(X, powers(7)))):
            for call in (under_bound, reduced_equation):
                with self.assertRaises(TooMany) as caught:
                    call(inner, function)
                self.assertEqual(caught.exception.limit, 6)
        self.assertEqual(under_bound(powers(6), powers(6)), ((1, 1),))
        self.assertEqual(reduced_equation(powers(6), powers(6))[4], 1)

    def test_wrong_arguments(self):
        numbers = [value for value in any_values() if not is_number(X, value)] + [(), ((), ()), (U[0], U[0]), rational(GREATEST + 1)]
        for call in (under_bound, reduced_equation):
            self.refuses_all(InvalidInner, call, (), any_values() + NOT_INNER, (None,))
            for inner in (U, powers(7)):
                self.refuses_all(InvalidNumber, call, (inner,), numbers)

    def test_each_name_is_defined_here(self):
        for name in "under_bound reduced_equation".split():
            self.assertEqual(getattr(rischbounds, name).__module__, "towerback.rischbounds")


if __name__ == "__main__":
    unittest.main()
