"""Points 52, 53 and 120: points at which two terms come to unlike fractions."""

import unittest
from fractions import Fraction

from tests.support import Asks, any_values, changed, chances
from tests.term_support import NOT_TERMS, W0, W1, W2, X1, chain, of_many, parts
from tests.test_valueforms import KT, KU, OTHER, SAME, WIDE
from towerback import unlikes
from towerback.errors import InvalidMaker, InvalidPoint, NoValue, TooMany
from towerback.makers import log_parts
from towerback.termerrors import InvalidTerm
from towerback.termled import thing_in
from towerback.termreading import read_term
from towerback.unlikes import shows_unlike, unlike_paper, values_at
from towerback.valueforms import are_one, makers_of
from towerback.wholebases import whole_basis

LOG_X, EXP_X = ("log", X1), ("exp", X1)
ZERO = ("minus", X1, X1)
GREAT = 10 ** 119 + 1


def plain_value(term, lines, basis, point):
    """Return the fraction to which a term comes at a point, None if it comes to none, by the words of the document."""
    sort = term[0]
    if sort == "whole":
        return Fraction(term[1])
    if sort == "x":
        return Fraction(*point[0])
    if sort == "log":
        told = log_parts(thing_in((), term[1]))
        return sum((power * Fraction(*point[1][lines.index(line)]) for line, power in told), Fraction(0))
    if sort == "exp":
        total, function = Fraction(1), thing_in((), term[1])
        row = whole_basis(basis + (function,))[1][-1]
        for maker, power in zip(point[2], row):
            total *= Fraction(*maker) ** power
        return total
    values = [plain_value(part, lines, basis, point) for part in parts(term)]
    if None in values:
        return None
    if sort == "negative":
        return -values[0]
    if sort == "power":
        return values[0] ** term[2]
    if sort == "over":
        return values[0] / values[1] if values[1] else None
    return values[0] + values[1] if sort == "plus" else values[0] - values[1] if sort == "minus" else values[0] * values[1]


def told(value):
    """Return a fraction of Python's own as a pair."""
    return None if value is None else (value.numerator, value.denominator)


def some_point(chance, lines, basis):
    """Return some point for two terms."""
    def one():
        number = Fraction(chance.randint(-9, 9), chance.randint(1, 4))
        return number.numerator, number.denominator
    others = []
    while len(others) < len(basis):
        number = one()
        if number[0]:
            others.append(number)
    return one(), tuple(one() for _ in lines), tuple(others)


def pairs():
    """Return pairs of terms of all kinds."""
    found = [(read_term(one), read_term(other)) for one, other in SAME + OTHER]
    more = [("1/x", "1/(x-1)"), ("1/log(x)+1/(log(x)-1)", "1/(log(x)-2)"), ("1/(exp(x)-1)", "1/(exp(x)-2)/(exp(x)-3)"), (WIDE, "exp(x)*exp(x^2)*exp(1/x)"), ("x*log(x)*exp(x)", "x/log(x)/exp(x)"),
            ("1/(x-1)/(x-2)/(x-3)", "x"), ("1/(exp(x)-log(x))", "1/(log(x)-x)"), ("exp(-24*x)", "exp(x)"), ("(exp(x)-1)^2/(x-1)^2", "(log(x)-1)^2*(log(x)-2)^2")]
    return found + [(read_term(one), read_term(other)) for one, other in more]


class Unlikes(Asks, unittest.TestCase):
    def test_values(self):
        chance, none = chances(120), 0
        for one, other in pairs():
            lines, basis = makers_of(one, other)
            for _ in range(15):
                point = some_point(chance, lines, basis)
                values = values_at(one, other, point)
                wanted = told(plain_value(one, lines, basis, point)), told(plain_value(other, lines, basis, point))
                self.assertEqual(values, wanted, (one, other, point))
                none += None in values
                self.assertIs(shows_unlike(one, other, point), None not in values and values[0] != values[1])
        self.assertGreater(none, 3)

    def test_one_value_or_a_point(self):
        """There is a point if and only if two terms are not one value; one value comes to the same at each point."""
        chance, words = chances(53), []
        for one, other in pairs():
            paper = unlike_paper(one, other)
            words.append(paper is None)
            self.assertIs(paper is None, are_one(one, other))
            if paper is not None:
                self.assertIs(shows_unlike(one, other, paper), True)
                values = values_at(one, other, paper)
                self.assertTrue(None not in values and values[0] != values[1])
            else:
                lines, basis = makers_of(one, other)
                for _ in range(5):
                    point = some_point(chance, lines, basis)
                    values = values_at(one, other, point)
                    self.assertTrue(None in values or values[0] == values[1])
                    self.assertIs(shows_unlike(one, other, point), False)
        self.assertGreater(min(words.count(True), words.count(False)), 15)

    def test_known_values(self):
        point = ((3, 1), ((5, 1),), ())
        self.assertEqual(values_at(KT, KU, point), ((10, 1), (10, 1)))
        self.assertEqual(values_at(KT, ("over", W1, LOG_X), ((3, 1), ((0, 1),), ())), ((0, 1), None))
        self.assertIsNone(unlike_paper(KT, KU))
        self.assertIs(shows_unlike(KT, X1, point), True)
        self.assertIs(shows_unlike(KT, KU, point), False)
        self.assertEqual(values_at(X1, W2, ((7, 2), (), ())), ((7, 2), (2, 1)))
        self.assertEqual(values_at(read_term("exp(-2*x)"), read_term("exp(x)"), ((0, 1), (), ((2, 3),))), ((9, 4), (2, 3)))
        self.assertEqual(values_at(read_term("exp(x/2)"), read_term("exp(x)"), ((0, 1), (), ((-2, 3),))), ((-2, 3), (4, 9)))
        self.assertEqual(values_at(read_term("log((x+1)/x)"), read_term("exp(x)*x"), ((5, 1), ((2, 1), (7, 2)), ((2, 1),))), ((3, 2), (10, 1)))
        self.assertEqual(values_at(("log", W1), ("exp", W0), ((0, 1), (), ())), ((0, 1), (1, 1)))
        # What is divided by nought there is none, in both, also where it is taken off again, or to the power 0.
        by = ("over", W1, ("minus", X1, W2))
        for term in (by, ("times", W0, by), ("power", by, 0), ("negative", by), ("minus", by, by), ("over", X1, by), ("plus", X1, by)):
            self.assertEqual(values_at(term, X1, ((2, 1), (), ())), (None, (2, 1)))
            self.assertEqual(values_at(X1, term, ((2, 1), (), ())), ((2, 1), None))
            self.assertIs(shows_unlike(term, X1, ((2, 1), (), ())), False)
        self.assertEqual(values_at(by, by, ((2, 1), (), ())), (None, None))
        self.assertIs(shows_unlike(by, by, ((2, 1), (), ())), False)
        # Terms that are always divided by nought have values nowhere, but no error is told here.
        self.assertEqual(values_at(("over", X1, ZERO), X1, ((2, 1), (), ())), (None, (2, 1)))
        self.assertIs(shows_unlike(("over", X1, W0), X1, ((2, 1), (), ())), False)

    def test_points(self):
        """As many fractions as there are lines, and makers of the basis, none of these nought; great ones, too."""
        one, other = read_term("log(x^2+x)*exp(x)"), read_term("exp(x^2)+x")
        lines, basis = makers_of(one, other)
        self.assertEqual((len(lines), len(basis)), (2, 2))
        good = (GREAT, 7), ((0, 1), (-1, GREAT)), ((GREAT, 1), (-3, 1))
        self.assertEqual(values_at(one, other, good)[1][1] > 0, True)
        self.assertIs(shows_unlike(one, other, good), True)
        wrong = [good[:2], good + ((),), list(good), (good[0], good[1], ((0, 1), (1, 1))), (good[0], good[1], ((1, 1), (0, 1))), (good[0], good[1][:1], good[2]), (good[0], good[1] + ((1, 1),), good[2]), (good[0], good[1], good[2][:1]),
                 (good[0], good[1], good[2] + ((1, 1),)), (good[0], (), good[2]), (good[0], list(good[1]), good[2]), ((2, 4), good[1], good[2]), ((1, 0), good[1], good[2]), ((1, -1), good[1], good[2]), (1, good[1], good[2]),
                 (good[0], (0, 1), good[2]), (good[0], ((0, 2), (1, 1)), good[2]), ((True, 1), good[1], good[2]), (good[0], ((1, True), (0, 1)), good[2]), (good[0], good[2], good[1])]
        for value in wrong + any_values():
            self.refused(InvalidPoint, values_at, one, other, value)
            self.assertIs(shows_unlike(one, other, value), False)
        for value in changed(good):
            if shows_unlike(one, other, value):
                values_at(one, other, value)
        for value in any_values():
            self.refused(InvalidPoint, values_at, X1, W1, value)
            if value != ():
                self.refused(InvalidPoint, values_at, X1, W1, ((0, 1), value, ()))
                self.refused(InvalidPoint, values_at, X1, W1, ((0, 1), (), value))

    def test_found_points(self):
        """Of whatever terms within the limits, with unders that come to nought at the first points."""
        for many in range(1, 8):
            under = X1
            for at in range(1, many):
                under = ("times", under, ("minus", X1, ("whole", at))) if at < 4 else under
            term = ("over", W1, under)
            self.assertIs(shows_unlike(term, X1, unlike_paper(term, X1)), True)
        makers = read_term("log(x)*log(x+1)*log(x+2)*exp(x)*exp(x^2)*exp(1/x)")
        more = read_term("x*log(x)*log(x+1)*log(x+2)*exp(x)*exp(x^2)*exp(1/x)")
        paper = unlike_paper(makers, more)
        self.assertIs(shows_unlike(makers, more, paper), True)
        self.assertEqual([len(part) for part in paper[1:]], [3, 3])
        least = read_term("(exp(24*x)-1)*(exp(-24*x)-1)*exp(24*x)")
        self.assertIs(shows_unlike(least, ("times", least, EXP_X), unlike_paper(least, ("times", least, EXP_X))), True)

    def test_errors(self):
        """Those of both terms, as told for makers, ahead of a wrong point; NoValue outside of logs for papers alone."""
        calls = ((values_at, (None,)), (unlike_paper, ()), (shows_unlike, (None,)))
        not_terms = NOT_TERMS + [chain(60), of_many(20001), "x"]
        for call, behind in calls:
            self.refuses_all(InvalidTerm, call, (), not_terms, (None,) + behind)
            self.refuses_all(InvalidTerm, call, (("power", X1, 12),), not_terms, behind)
            self.refuses_all(InvalidTerm, call, (), not_terms, (("power", X1, 12),) + behind)
            self.refuses_all(InvalidTerm, call, (), not_terms, (X1,) + behind)
            for one, other, error in ((("log", ("over", X1, ZERO)), X1, NoValue), (("log", LOG_X), X1, InvalidMaker), (X1, ("exp", W1), InvalidMaker), (("log", ZERO), ("exp", ("over", W1, W0)), InvalidMaker)):
                self.refused(error, call, one, other, *behind)
            for one, other, limit in ((("power", X1, 9), ("log", W0), 8), (X1, ("log", ("power", X1, 9)), 8), (read_term(WIDE + "+exp(x)+exp(x^2)"), read_term("exp(1/x)+exp(1/(x+1))"), 6), (EXP_X, ("exp", ("times", ("whole", 25), X1)), 24)):
                with self.assertRaises(TooMany) as caught:
                    call(one, other, *behind)
                self.assertEqual(caught.exception.limit, limit)
        for under in (W0, ZERO, ("log", W1), ("minus", KT, KU)):
            self.refused(NoValue, unlike_paper, ("over", X1, under), X1)
            self.refused(NoValue, unlike_paper, X1, ("times", W0, ("over", X1, under)))
            self.refused(InvalidPoint, values_at, ("over", X1, under), X1, None)
            self.assertIs(shows_unlike(("over", X1, under), X1, None), False)

    def test_each_name_is_defined_here(self):
        for name in "values_at unlike_paper shows_unlike".split():
            self.assertEqual(getattr(unlikes, name).__module__, "towerback.unlikes")


if __name__ == "__main__":
    unittest.main()
