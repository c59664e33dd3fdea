"""Points 37 and 102: rows of powers of an exponential."""

import unittest

from tests.risch_by_trial import INNER, NOT_INNER, great_plus, is_risch_paper, left_side, lifted, short_function, some_function
from tests.risch_by_trial import thing_from
from tests.support import GREATEST, X, Asks, any_values, changed, chances, trimmed
from tests.test_logarithmic import NOT_LINES, lifted_sums
from tests.test_stepparts import NOUGHT, ONE, XX, powers
from tests.test_towers import U, W, rational
from towerback import exponential
from towerback.errors import InvalidInner, InvalidLine, InvalidNumber, TooMany
from towerback.exponential import exp_line_paper, takes_exp_line
from towerback.fieldways import inverse_of, is_line, number_of, number_plus, number_times, quotient_of
from towerback.oneform import plain_sums
from towerback.rischsolve import risch_paper
from towerback.towers import derivative_of

SHIFTED = (((1, 1),), ((1, 1), (1, 1)))
HALVES = (((1, 1),), ((1, 1), (0, 1), (1, 1)))


def times_inner(inner, power):
    """Return a function so many times."""
    return number_times(X, number_of(X, power, 1), inner)


def comes_to(inner, low, row, own, sums):
    """Tell whether the derivatives of a thing and of root sums of () come to a row of powers."""
    return great_plus((("exp", inner),), own, lifted_sums(sums)) == thing_from(low, row)


def is_exp_paper(inner, low, row, value):
    """Tell whether a paper of a row of powers is as told, by the words of the document."""
    if value[0] == "yes":
        return comes_to(inner, low, row, value[1], value[2])
    power, paper = value[1:]
    if not low <= power < low + len(row) or power == 0 or paper[0] != "no":
        return False
    return is_risch_paper(times_inner(inner, power), row[power - low], paper)


def short(row):
    """Tell whether a row is within the limits 4 and 6."""
    return is_line(X, row) and len(row) < 6 and all(short_function(number) for number in row)


def planted(chance, inner, low, many):
    """Return a row of powers, from a low one on, each with a solution, but at the power 0 with any function."""
    row = []
    for at in range(many):
        part = some_function(chance, 1)
        poles = number_plus(X, W, number_times(X, number_of(X, chance.randint(2, 5), 1), SHIFTED))
        bottom = chance.choice((derivative_of((), part), part, poles))
        row.append(left_side(times_inner(inner, low + at), part) if low + at else bottom)
    return trimmed(X, row)


class Exponential(Asks, unittest.TestCase):
    def told(self, inner, low, row):
        """Return the paper of a row, having asked that it is as told."""
        paper = exp_line_paper(inner, low, row)
        self.assertTrue(is_exp_paper(inner, low, row, paper), (inner, low, row, paper))
        self.assertIs(takes_exp_line(inner, low, row, paper), True)
        if paper[0] == "yes":
            self.assertEqual(plain_sums(paper[2]), paper[2])
        return paper

    def test_papers(self):
        words, lows = [], set()
        for seed, inner in enumerate(INNER):
            chance = chances(seed)
            for _ in range(40):
                low = chance.randint(-4, 0)
                row = planted(chance, inner, low, chance.randint(0, 3))
                if row and chance.randrange(2):
                    at = chance.randrange(len(row))
                    row = row[:at] + (some_function(chance, 1),) + row[at + 1:]
                if short(row):
                    paper = self.told(inner, low, row)
                    words.append(paper[0])
                    lows.add((low, paper[0]))
                    if paper[0] == "no":
                        # The least one of several, and no other one that is lower.
                        for power in range(low, paper[1]):
                            if power:
                                self.assertEqual(risch_paper(times_inner(inner, power), row[power - low])[0], "yes")
        self.assertGreater(min(words.count("yes"), words.count("no")), 20)
        self.assertEqual(lows, {(low, word) for low in range(-4, 1) for word in ("yes", "no")})

    def test_planted_rows(self):
        many = []
        for seed, inner in enumerate(INNER):
            chance, done = chances(seed + 40), 0
            while done < 10:
                low = chance.randint(-4, 0)
                row = planted(chance, inner, low, chance.randint(1, 5))
                if short(row):
                    done += 1
                    paper = self.told(inner, low, row)
                    self.assertEqual(paper[0], "yes")
                    many.append(len(paper[2]))
        self.assertTrue(0 in many and max(many) > 1)

    def test_known_papers(self):
        self.assertEqual(exp_line_paper(U, -1, (W, NOUGHT, W)), ("no", -1, ("no", ((1, 1),), -1, ((1, 1),))))
        self.assertEqual(exp_line_paper(U, 0, (W, W)), ("no", 1, ("no", ((1, 1),), -1, ((1, 1),))))
        for low in range(-4, 1):
            self.assertEqual(exp_line_paper(U, low, ()), ("yes", number_of(XX, 0, 1), ()))
        # The exponential itself, with x, to several powers, also below 0.
        self.assertEqual(exp_line_paper(U, 0, (NOUGHT, ONE)), ("yes", ((NOUGHT, ONE), (ONE,)), ()))
        self.assertEqual(exp_line_paper(U, 0, (NOUGHT, U)), ("yes", ((NOUGHT, rational(-1, 1)), (ONE,)), ()))
        self.assertEqual(exp_line_paper(U, -4, (ONE,)), ("yes", ((number_of(X, -1, 4),), (NOUGHT,) * 4 + (ONE,)), ()))
        self.assertEqual(exp_line_paper(rational(0, 0, -1), 0, (NOUGHT, ONE))[:2], ("no", 1))
        self.assertEqual(exp_line_paper(rational(0, 0, 1), -2, (U, NOUGHT, rational(0, 3))), ("yes", thing_from(-2, (number_of(X, -1, 4), NOUGHT, quotient_of(0, ((0, 1), (0, 1), (3, 2)), ((1, 1),)))), ()))
        # At the power 0 there is always something, with sums where it has simple poles.
        self.assertEqual(exp_line_paper(U, 0, (W,)), ("yes", number_of(XX, 0, 1), ((((-1, 1), (1, 1)), (U,)),)))
        self.assertEqual(exp_line_paper(U, -2, (NOUGHT, NOUGHT, HALVES)), ("yes", number_of(XX, 0, 1), ((((1, 4), (0, 1), (1, 1)), (U, rational(2))),)))
        self.assertEqual(exp_line_paper(U, -1, (NOUGHT, number_plus(X, W, ONE), ONE)), ("yes", ((U, ONE), (ONE,)), ((((-1, 1), (1, 1)), (U,)),)))

    def test_the_least_power(self):
        for low in range(-4, 1):
            row = (W,) * 5
            self.assertEqual(exp_line_paper(U, low, row)[1], low if low else 1)
            # Others are papers, too.
            for at, number in enumerate(row):
                if low + at:
                    paper = ("no", low + at, risch_paper(times_inner(U, low + at), number))
                    self.assertIs(takes_exp_line(U, low, row, paper), True)
                    self.assertIs(takes_exp_line(U, low, row, ("no", low + at, paper[2][:3] + (((7, 1),),))), False)
                    solved = ("yes", rational(0, 1))
                    asked = row[:at] + (left_side(times_inner(U, low + at), solved[1]),) + row[at + 1:]
                    self.assertIs(takes_exp_line(U, low, asked, ("no", low + at, solved)), False)
                else:
                    # With the power 0, Risch's equation is one of a constant: that it has no solution shows nothing.
                    for under, most in ((((1, 1),), 0), (((1, 1),), -1), (((0, 1), (1, 1)), 0)):
                        self.assertIs(takes_exp_line(U, low, row, ("no", 0, ("no", under, most, ((1, 1),)))), False)
            for power in (0, low - 1, low + 5, None, True, "1"):
                paper = ("no", power, risch_paper(U, W))
                self.assertIs(takes_exp_line(U, low, row, paper), False)

    def test_judge(self):
        for inner, low, row in ((U, -1, (W, NOUGHT, W)), (U, 0, ()), (U, 0, (W, U)), (W, -2, (NOUGHT, NOUGHT, HALVES)), (rational(0, 0, -1), 0, (NOUGHT, ONE))):
            paper = exp_line_paper(inner, low, row)
            self.judges(takes_exp_line, (inner, low, row), paper, False)
            for value in changed(paper):
                if takes_exp_line(inner, low, row, value):
                    self.assertEqual(value[0], paper[0])
                    self.assertTrue(is_exp_paper(inner, low, row, value))
            for at, part in enumerate(paper):
                for value in any_values():
                    if value != part:
                        self.assertIs(takes_exp_line(inner, low, row, paper[:at] + (value,) + paper[at + 1:]), False)

    def test_other_papers(self):
        great = lifted(rational(10 ** 119 + 1))
        log = ((((-1, 1), (1, 1)), (U,)),)
        self.assertIs(takes_exp_line(U, 0, (W,), ("yes", great, log)), True)
        self.assertIs(takes_exp_line(U, 0, (W,), ("yes", great, ())), False)
        self.assertIs(takes_exp_line(U, 0, (W,), ("yes", number_of(XX, 0, 1), ((((-1, 17), (1, 1)), (U,)),) * 17)), True)
        self.assertIs(takes_exp_line(U, 0, (), ("yes", great, ((((-1, 1), (1, 1)), (rational(10 ** 119),)),))), True)
        self.assertIs(takes_exp_line(U, 0, (NOUGHT, ONE), ("yes", number_plus(XX, ((NOUGHT, ONE), (ONE,)), lifted(ONE)), ())), True)
        self.assertIs(takes_exp_line(U, 0, (NOUGHT, ONE), ("yes", ((NOUGHT, rational(2)), (ONE,)), ())), False)
        # Sums of the tower are none of ().
        self.assertIs(takes_exp_line(U, 0, (W,), ("yes", great, lifted_sums(log))), False)

    def test_limits(self):
        long = tuple([NOUGHT] * 5 + [ONE])
        cases = [((powers(7), -4, long), 6), ((U, 0, long), 4), ((U, 0, (powers(7),) + long[1:]), 4), ((U, -1, (powers(7),)), 6),
                 ((powers(7), 0, (powers(7),)), 6), ((inverse_of(X, powers(7)), 0, ()), 6), ((U, 0, (ONE, inverse_of(X, powers(7)))), 6)]
        for arguments, limit in cases:
            for call, behind in ((exp_line_paper, ()), (takes_exp_line, (None,))):
                with self.assertRaises(TooMany) as caught:
                    call(*arguments, *behind)
                self.assertEqual(caught.exception.limit, limit)
        self.assertEqual(exp_line_paper(powers(6), -4, (powers(5),) * 5)[0], "yes")
        # The simple part at the power 0 has a line of the degree 6 at most: so nothing is too long there.
        self.assertEqual(len(exp_line_paper(U, 0, (quotient_of(0, ((1, 1),), ((2, 1),) + ((0, 1),) * 5 + ((1, 1),)),))[2]), 1)

    def test_wrong_arguments(self):
        for call, behind in ((exp_line_paper, ()), (takes_exp_line, (None,))):
            self.refuses_all(InvalidInner, call, (), any_values() + NOT_INNER, (None, None) + behind)
            for inner in (U, powers(7)):
                self.refuses_all(InvalidNumber, call, (inner,), any_values() + [1, -5, GREATEST, (0,)], (None,) + behind)
                self.refuses_all(InvalidLine, call, (inner, -4), NOT_LINES, behind)

    def test_each_name_is_defined_here(self):
        for name in "exp_line_paper takes_exp_line".split():
            self.assertEqual(getattr(exponential, name).__module__, "towerback.exponential")


if __name__ == "__main__":
    unittest.main()
