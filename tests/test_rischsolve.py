"""Points 34, 35 and 100: Risch's equation."""

import unittest

from tests.risch_by_trial import INNER, NOT_INNER, equation_lines, is_risch_paper, left_side, plain_equation, short_function
from tests.risch_by_trial import some_function
from tests.support import GREATEST, X, Asks, any_values, changed, chances
from tests.test_stepparts import NOUGHT, ONE, powers
from tests.test_towers import U, V, W, rational
from towerback import rischsolve
from towerback.errors import InvalidInner, InvalidNumber, TooMany
from towerback.fieldways import inverse_of, is_number, number_of, number_plus, number_times, quotient_of
from towerback.rischsolve import risch_paper, risch_solution, takes_risch
from towerback.systems import kernel_of

HALF = (((1, 2),), ((1, 1),))
NOT_NUMBERS = [value for value in any_values() if not is_number(X, value)] + [(), ((), ()), (U[0], U[0]), rational(GREATEST + 1)]


class RischSolve(Asks, unittest.TestCase):
    def test_planted_solutions(self):
        """What is planted comes back, as the only solution; what is asked may have powers of the inner function."""
        for seed, inner in enumerate(INNER):
            chance, done = chances(seed), 0
            while done < 15:
                solution = some_function(chance, chance.choice((1, 2, 3)))
                function = left_side(inner, solution)
                if short_function(function):
                    done += 1
                    self.assertEqual(risch_paper(inner, function), ("yes", solution))
                    self.assertEqual(risch_solution(inner, function), solution)
                    self.assertIs(takes_risch(inner, function, ("yes", solution)), True)

    def test_papers(self):
        words, lengths = [], set()
        for seed, inner in enumerate(INNER):
            chance = chances(seed + 20)
            for _ in range(20):
                function = some_function(chance, 3)
                if chance.randrange(2):
                    # Near what has a solution.
                    function = number_plus(X, left_side(inner, some_function(chance)), some_function(chance, 1))
                if short_function(function):
                    paper = risch_paper(inner, function)
                    words.append(paper[0])
                    self.assertTrue(is_risch_paper(inner, function, paper), (inner, function, paper))
                    self.assertIs(takes_risch(inner, function, paper), True)
                    self.assertEqual(risch_solution(inner, function), paper[1] if paper[0] == "yes" else None)
                    if paper[0] == "no":
                        lengths.add(paper[2])
        self.assertGreater(min(words.count("yes"), words.count("no")), 10)
        self.assertGreater(len(lengths), 3)

    def test_known_papers(self):
        self.assertEqual(risch_paper(U, W), ("no", ((1, 1),), -1, ((1, 1),)))
        self.assertEqual(risch_solution(U, U), rational(-1, 1))
        self.assertEqual(risch_paper(U, NOUGHT), ("yes", NOUGHT))
        self.assertEqual(risch_paper(U, ONE), ("yes", ONE))
        # The exponential of - x ** 2 has no integral of the kind, x times it has.
        self.assertEqual(risch_paper(rational(0, 0, -1), ONE)[0], "no")
        self.assertEqual(risch_paper(rational(0, 0, -1), U), ("yes", number_of(X, -1, 2)))
        # For n of -1 there is no q: that c is not nought is all that is to be shown.
        paper = risch_paper(W, rational(0, 1))
        self.assertEqual(paper[:3], ("no", ((1, 1),), 2))
        self.assertEqual(risch_paper(rational(0, 0, 1), W), ("no", ((1, 1),), -1, ((1, 1),)))
        # b's last number taken the other way is what lets the solution be so long.
        solution = quotient_of(0, ((0, 1), (0, 1), (1, 1)), ((1, 1), (2, 1), (1, 1)))
        function = left_side(W, solution)
        equation = plain_equation(W, function)
        self.assertEqual(len(equation[2]) - 1, len(equation[1]) - 2)
        self.assertGreater(equation[4], len(equation[3]) - len(equation[2]))
        self.assertEqual(risch_paper(W, function), ("yes", solution))

    def test_judge(self):
        for inner, function in ((U, W), (U, U), (U, NOUGHT), (V, rational(1, 2)), (rational(0, 0, -1), ONE), (W, U)):
            paper = risch_paper(inner, function)
            self.judges(takes_risch, (inner, function), paper, False)
            for value in changed(paper):
                if takes_risch(inner, function, value):
                    # Of rows that show that there is no solution there may be more than one.
                    self.assertEqual((value[0], paper[0]), ("no", "no"))
                    self.assertTrue(is_risch_paper(inner, function, value), value)
            for at, part in enumerate(paper):
                for value in any_values():
                    if value != part:
                        self.assertIs(takes_risch(inner, function, paper[:at] + (value,) + paper[at + 1:]), False)

    def test_other_rows(self):
        """Any row that shows that there is no solution is taken, and none that does not."""
        inner, function = rational(0, 0, -1), ONE
        word, under, most, row = risch_paper(inner, function)
        self.assertEqual((under, most, len(row)), (((1, 1),), -1, 1))
        inner, function = U, number_plus(X, W, rational(0, 0, 1))
        word, under, most, row = risch_paper(inner, function)
        lines = equation_lines(plain_equation(inner, function))
        self.assertEqual((most, len(row)), (2, 4))
        self.assertEqual([line[:1] for line in lines], [((0, 1),)] * 3)
        # Over x, each a D q + b q has no number at the power 0, so that this alone tells.
        self.assertIs(takes_risch(inner, function, ("no", under, most, ((1, 1), (0, 1), (0, 1), (0, 1)))), True)
        self.assertIs(takes_risch(inner, function, ("no", under, most, ((1, 1), (0, 1), (0, 1)))), False)
        self.assertIs(takes_risch(inner, function, ("no", under, most, ((1, 1), (0, 1), (0, 1), (0, 1), (0, 1)))), False)
        self.assertIs(takes_risch(inner, function, ("no", under, most, ((2, 1), (0, 1), (0, 1), (0, 1)))), False)
        self.assertIs(takes_risch(inner, function, ("no", under, most, ((1, 1), (1, 1), (0, 1), (0, 1)))), False)
        self.assertIs(takes_risch(inner, function, ("no", under, most, ((1, 1), (0, 1), (0, 1), (1, 1)))), False)
        self.assertIs(takes_risch(inner, function, ("no", ((0, 1), (1, 1)), most, row)), False)
        for other in (most - 1, most + 1, str(most), (most,), None):
            self.assertIs(takes_risch(inner, function, ("no", under, other, row)), False)
        # True is no integer.
        inner, function = U, number_plus(X, W, rational(0, 1))
        word, under, most, row = risch_paper(inner, function)
        self.assertEqual((word, most), ("no", 1))
        self.assertIs(takes_risch(inner, function, (word, under, 1, row)), True)
        self.assertIs(takes_risch(inner, function, (word, under, True, row)), False)
        self.assertIs(takes_risch(inner, function, (word, ((True, 1),), 1, row)), False)

    def test_never_both(self):
        for seed, inner in enumerate(INNER):
            chance = chances(seed + 70)
            solution = some_function(chance)
            function = left_side(inner, solution)
            if not short_function(function) or function == NOUGHT:
                continue
            under, _, _, wished, most = plain_equation(inner, function)
            for number in wished:
                if number != (0, 1):
                    row = tuple(inverse_of(0, part) if part == number else (0, 1) for part in wished)
                    self.assertIs(takes_risch(inner, function, ("no", under, most, row)), False)

    def test_great_papers(self):
        great = 10 ** 119 + 1
        self.assertIs(takes_risch(U, rational(GREATEST), ("yes", rational(GREATEST))), True)
        self.assertIs(takes_risch(U, rational(GREATEST), ("yes", rational(great))), False)
        self.assertIs(takes_risch(U, rational(1, 1), ("yes", (((0, 1),) * 900 + ((1, 1),), ((1, 1),)))), False)
        # A row with great integers that shows the same as another one.
        inner, function = U, number_plus(X, rational(0, 0, 1), quotient_of(0, ((1, 1),), ((0, 1), (0, 1), (1, 1))))
        under, _, _, wished, most = plain_equation(inner, function)
        word, told, degree, row = risch_paper(inner, function)
        self.assertEqual((word, told, degree), ("no", under, most))
        lines = equation_lines(plain_equation(inner, function)) + [wished]
        rows = [line + ((0, 1),) * (len(row) - len(line)) for line in lines]
        for free in kernel_of(0, tuple(rows)):
            other = tuple(number_plus(0, item, number_times(0, (GREATEST, 7), part)) for item, part in zip(row, free))
            self.assertIs(takes_risch(inner, function, (word, told, degree, other)), True)

    def test_limits(self):
        for inner, function in ((powers(7), W), (powers(6), powers(7)), (inverse_of(X, powers(7)), W), (U, inverse_of(X, powers(7)))):
            for call in (risch_paper, risch_solution, takes_risch):
                with self.assertRaises(TooMany) as caught:
                    call(inner, function, *((None,) if call == takes_risch else ()))
                self.assertEqual(caught.exception.limit, 6)
        self.assertEqual(risch_paper(powers(6), powers(5)), ("yes", number_of(X, 1, 6)))
        self.assertEqual(risch_solution(powers(6), powers(6)), None)

    def test_wrong_arguments(self):
        for call, behind in ((risch_paper, ()), (risch_solution, ()), (takes_risch, (None,))):
            self.refuses_all(InvalidInner, call, (), any_values() + NOT_INNER + [HALF], (None,) + behind)
            for inner in (U, powers(7)):
                self.refuses_all(InvalidNumber, call, (inner,), NOT_NUMBERS, behind)

    def test_each_name_is_defined_here(self):
        for name in "risch_paper risch_solution takes_risch".split():
            self.assertEqual(getattr(rischsolve, name).__module__, "towerback.rischsolve")


if __name__ == "__main__":
    unittest.main()
