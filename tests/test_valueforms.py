"""Points 51, 53 and 119: makers of two terms, and whether they are one value."""

import unittest

from tests.support import Asks, chances
from tests.term_support import NOT_TERMS, W0, W1, W2, X1, chain, of_many
from tests.test_towers import U
from towerback import valueforms
from towerback.errors import InvalidMaker, NoValue, TooMany
from towerback.makers import log_parts
from towerback.termerrors import InvalidTerm
from towerback.termled import thing_in
from towerback.termreading import read_term
from towerback.valueforms import are_one, makers_of
from towerback.wholebases import whole_basis

LOG_X, EXP_X = ("log", X1), ("exp", X1)
ZERO = ("minus", X1, X1)
KT, KU = ("log", ("power", X1, 2)), ("times", W2, LOG_X)
# Pairs of texts that are one value, and such that are not.
SAME = [
    ("x", "x"), ("x+x", "2*x"), ("(x+1)^2", "x^2+2*x+1"), ("x/x", "1"), ("x-x", "0"), ("log(x^2)", "2*log(x)"), ("log(x^2-1)", "log(x-1)+log(x+1)"), ("log(1/x)", "-log(x)"), ("log((x+1)/x)", "log(x+1)-log(x)"),
    ("exp(-x)", "1/exp(x)"), ("exp(2*x)", "exp(x)^2"), ("exp(x/2)*exp(x/3)", "exp(5*x/6)"), ("exp(x)*exp(1/x)", "exp((x^2+1)/x)"), ("exp(x-x)", "1"), ("log(1)", "0"), ("log(x/x)+exp(0)", "1"), ("x^0", "1"), ("(x-x)^0", "1"),
    ("log(x)*exp(x)-exp(x)*log(x)", "0"), ("1/(1/log(x))", "log(x)"), ("exp(x)/exp(x)", "1"), ("(log(x)+1)^2", "log(x)^2+log(x^2)+1"), ("(exp(x)^2-1)/(exp(x)-1)", "exp(x)+1"), ("log(2*x+2/2)", "log(1+2*x)"),
    ("log(x^3)^2", "9*log(x)^2"), ("exp(3*x)-exp(x)^3", "0"), ("exp(x^2/2)^2", "exp(x^2)"), ("1/exp(x)+1", "(exp(x)+1)/exp(x)"), ("-(-log(x))", "log(x)"), ("log(x)/log(x^2)", "1/2"), ("exp(x)*exp(-2*x)", "exp(-x)"),
]
OTHER = [
    ("x", "x+1"), ("log(x)", "x"), ("log(x)", "log(x+1)"), ("exp(x)", "x"), ("exp(x)", "exp(2*x)"), ("log(x^2)", "log(x)"), ("exp(x)", "exp(-x)"), ("log(x)+log(x+1)", "log(2*x+1)"), ("exp(x)+exp(x)", "exp(2*x)"),
    ("log(x)*log(x)", "log(x^2)"), ("exp(x/2)", "exp(x/3)"), ("exp(1/x)", "exp(x)"), ("0", "1"), ("log(x)", "exp(x)"), ("1/log(x)", "log(1/x)"), ("exp(x)/2", "exp(x/2)"), ("log(x^2+1)", "2*log(x+1)"),
]
WIDE = "log(x)+log(x+1)+log(x+2)"


class ValueForms(Asks, unittest.TestCase):
    def limited(self, limit, function, *arguments):
        """Ask that a call raises TooMany with a limit."""
        with self.assertRaises(TooMany, msg=arguments) as caught:
            function(*arguments)
        self.assertEqual(caught.exception.limit, limit, arguments)

    def errors(self, error, *terms):
        """Ask that both functions raise an error."""
        self.refused(error, makers_of, *terms)
        self.refused(error, are_one, *terms)

    def test_one_value(self):
        for one, other in SAME:
            one, other = read_term(one), read_term(other)
            self.assertIs(are_one(one, other), True, (one, other))
            self.assertIs(are_one(other, one), True)
            self.assertIs(are_one(("plus", one, LOG_X), ("plus", LOG_X, other)), True)
            self.assertIs(are_one(("plus", one, W1), other), False)
        for one, other in OTHER:
            self.assertIs(are_one(read_term(one), read_term(other)), False, (one, other))
            self.assertIs(are_one(read_term(other), read_term(one)), False)

    def test_terms_made_in_two_ways(self):
        """Of the same parts, turned around by rules that hold for all values."""
        chance = chances(119)
        leaves = [X1, W2, LOG_X, EXP_X, ("log", ("plus", X1, W1)), ("exp", ("over", X1, W2)), W1]
        for _ in range(150):
            a, b, c = (chance.choice(leaves) for _ in range(3))
            for one, other in (
                (("times", a, ("plus", b, c)), ("plus", ("times", b, a), ("times", a, c))), (("minus", a, ("minus", b, c)), ("plus", ("minus", a, b), c)), (("power", ("plus", a, b), 2), ("times", ("plus", b, a), ("plus", a, b))),
                (("over", ("plus", a, b), c), ("plus", ("over", a, c), ("over", b, c))), (("negative", ("minus", a, b)), ("minus", b, a)), (("over", a, ("over", b, c)), ("over", ("times", c, a), b)), (("power", a, 3), ("times", a, ("power", a, 2))),
            ):
                self.assertIs(are_one(one, other), True, (one, other))
                self.assertIs(are_one(one, ("plus", other, W1)), False)
                self.assertIs(are_one(("negative", one), other), is_nought(one))

    def test_makers(self):
        self.assertEqual(makers_of(KT, EXP_X), (((0, 1),), (U,)))
        self.assertEqual(makers_of(X1, W1), ((), ()))
        self.assertEqual(makers_of(("log", W1), ("exp", W0)), ((), ()))
        half = (((0, 1), (1, 2)), ((1, 1),))
        for one, other in SAME + OTHER + [("exp(x/2)+exp(x)", "log(x/(x+1))"), ("exp(2*x)", "exp(3*x)"), ("exp(x^2+x)*log(2*x+1)", "exp(x)/log(x^2-1)")]:
            one, other = read_term(one), read_term(other)
            lines, basis = makers_of(one, other)
            steps = inner_steps(one) + inner_steps(other)
            functions = [(sort, thing_in((), term)) for sort, term in steps]
            wanted = sorted({line for sort, function in functions if sort == "log" for line, _ in log_parts(function)})
            self.assertEqual(lines, tuple(wanted))
            self.assertEqual(basis, whole_basis(tuple(function for sort, function in functions if sort == "exp"))[0])
        self.assertEqual(makers_of(read_term("exp(x/2)"), read_term("exp(x)")), ((), (half,)))
        self.assertEqual(makers_of(read_term("log(x^2-1)"), read_term("log(2*x+1)")), (((-1, 1), (1, 1), (1, 2)), ()))
        # More than six exponentials with few makers; makers that cancel count as well.
        many = read_term("exp(x)+exp(2*x)+exp(3*x)+exp(-x)")
        self.assertEqual(makers_of(many, many)[1], (U,))
        self.assertEqual(makers_of(("minus", LOG_X, LOG_X), W1), (((0, 1),), ()))
        self.assertEqual(makers_of(("power", EXP_X, 0), W1), ((), (U,)))

    def test_spans(self):
        """8 for each term, and for what is in outer logs and exps; a log or exp has the span 1."""
        good = ("times", ("power", X1, 4), ("power", X1, 4))
        for term in (good, ("power", X1, 8), ("negative", good), ("power", ("power", X1, 2), 4), ("plus", ("power", X1, 7), W1), ("log", good), ("exp", good), ("power", LOG_X, 8), ("power", ("power", X1, 0), 8)):
            makers_of(term, term)
        for inner in (good, ("power", ("plus", X1, W1), 4), ("power", ("power", X1, 2), 4)):
            self.assertEqual(len(makers_of(("log", inner), W1)[0]), 1)
        self.assertEqual(len(makers_of(W1, ("exp", good))[1]), 1)
        wide = [("times", good, X1), ("over", good, W1), ("plus", W1, good), ("minus", good, ("power", X1, 0)), ("power", X1, 9), ("power", ("power", X1, 3), 3), ("power", ("power", ("plus", X1, X1), 0), 12), ("power", ("plus", X1, W1), 5),
                ("negative", ("times", good, X1)), ("times", good, LOG_X)]
        for term in wide:
            for function in (makers_of, are_one):
                self.limited(8, function, term, X1)
                self.limited(8, function, X1, term)
                self.limited(8, function, ("log", term), X1)
                self.limited(8, function, X1, ("plus", W1, ("exp", term)))
                # Ahead of all that is wrong with what is in logs.
                self.limited(8, function, ("log", ZERO), term)
                self.limited(8, function, ("log", ("over", X1, ZERO)), ("log", term))
        # What stands in an inner log does not count: that it is there is wrong by itself.
        self.errors(InvalidMaker, ("log", ("log", ("power", X1, 12))), X1)
        self.limited(8, are_one, ("log", ("times", ("log", X1), good)), X1)
        self.assertIs(are_one(chain(59), ("negative", X1)), True)

    def test_no_value_and_what_is_not_let(self):
        by_zero = ("over", X1, ZERO)
        for sort in ("log", "exp"):
            self.errors(NoValue, (sort, by_zero), X1)
            self.errors(NoValue, X1, ("plus", W1, (sort, ("times", W0, by_zero))))
            for inner in (LOG_X, EXP_X, ("plus", X1, ("log", X1)), ("power", ("exp", X1), 0), ("log", W1)):
                self.errors(InvalidMaker, (sort, inner), X1)
                self.errors(InvalidMaker, X1, ("negative", (sort, inner)))
        for inner in (W0, W2, ZERO, ("times", W2, X1), ("negative", X1), ("over", X1, W2), ("over", W1, ("times", W2, X1)), ("minus", W1, X1)):
            self.errors(InvalidMaker, ("log", inner), X1)
        for inner in (W1, W2, ("plus", X1, W1), ("over", ("plus", X1, W1), X1), ("over", W1, W2)):
            self.errors(InvalidMaker, ("exp", inner), X1)
        self.assertIs(are_one(("log", ("over", X1, ("plus", X1, W1))), ("negative", ("log", ("over", ("plus", X1, W1), X1)))), True)
        # From left to right, the first term ahead, what is in each ahead of that it is not let.
        bad, none = ("log", ZERO), ("exp", by_zero)
        self.errors(InvalidMaker, ("plus", bad, none), X1)
        self.errors(NoValue, ("plus", none, bad), X1)
        self.errors(InvalidMaker, bad, none)
        self.errors(NoValue, none, bad)
        self.errors(NoValue, ("log", ("plus", by_zero, LOG_X)), X1)
        self.errors(InvalidMaker, ("log", ("plus", LOG_X, by_zero)), X1)
        self.errors(InvalidMaker, ("exp", ("over", LOG_X, W0)), X1)
        self.errors(NoValue, ("exp", ("over", W1, W0)), ("exp", W1))

    def test_makers_in_all(self):
        """6 makers and 7, then 24 and 25 for the integers of rows."""
        six = read_term(WIDE + "+exp(x)+exp(x^2)")
        self.assertEqual(len(makers_of(six, ("exp", ("over", W1, X1)))[0]), 3)
        self.assertEqual(len(makers_of(six, ("exp", ("over", W1, X1)))[1]), 3)
        for other in ("log(x+3)+exp(1/x)", "log(x+3)+log(x+4)", "exp(1/x)+exp(1/(x+1))"):
            for function in (makers_of, are_one):
                self.limited(6, function, six, read_term(other))
                self.limited(6, function, read_term(other), six)
        self.assertEqual(makers_of(six, read_term("log(x^2+x)+exp(x^2-x)"))[0], ((0, 1), (1, 1), (2, 1)))
        self.limited(6, are_one, read_term("log((x+1)*(x+2)*(x+3)*(x+4))"), read_term("log((x+5)*(x+6)*(x+7)*x)"))
        for many, fits in ((24, True), (-24, True), (25, False), (-25, False)):
            inner = ("times", ("whole", abs(many)), X1)
            term = ("exp", ("negative", inner) if many < 0 else inner)
            for function in (makers_of, are_one):
                if fits:
                    function(term, EXP_X)
                else:
                    self.limited(24, function, term, EXP_X)
                    self.limited(24, function, EXP_X, term)
                    # More makers than 6 come ahead, and what is not let ahead of these.
                    self.limited(6, function, ("plus", six, term), read_term("exp(1/x)+exp(1/(x+1))"))
                    self.refused(InvalidMaker, function, term, ("plus", EXP_X, ("log", W0)))
                    self.limited(24, function, ("plus", term, ("over", W1, W0)), EXP_X)
        self.limited(24, are_one, read_term("exp(x/5)"), read_term("exp(x/6)+exp(x)"))
        self.assertIs(are_one(read_term("exp(x/4)^4"), read_term("exp(x/6)^6")), True)

    def test_no_value_outside(self):
        """Behind all others, for the first term, and for the second one; not for makers."""
        for under in (W0, ZERO, ("log", W1), ("minus", LOG_X, LOG_X), ("minus", KT, KU), ("minus", ("exp", ("times", W2, X1)), ("power", EXP_X, 2)), ("power", W0, 3), ("negative", ZERO)):
            term = ("over", X1, under)
            for wrong in (term, ("times", W0, term), ("power", term, 0), ("over", W1, ("plus", W1, term))):
                self.refused(NoValue, are_one, wrong, X1)
                self.refused(NoValue, are_one, X1, wrong)
                makers_of(wrong, X1)
                self.refused(InvalidMaker, are_one, wrong, ("log", W0))
        self.assertIs(are_one(("over", X1, ("power", ZERO, 0)), X1), True)
        self.assertIs(are_one(("over", ZERO, LOG_X), W0), True)

    def test_wrong_arguments(self):
        not_terms = NOT_TERMS + [chain(60), of_many(20001), "x"]
        for function in (makers_of, are_one):
            self.refuses_all(InvalidTerm, function, (), not_terms, (None,))
            for other in (X1, ("log", W0), ("power", X1, 12), ("over", X1, W0)):
                self.refuses_all(InvalidTerm, function, (), not_terms, (other,))
            self.refuses_all(InvalidTerm, function, (X1,), not_terms)
            self.refuses_all(InvalidTerm, function, (("log", W0),), not_terms)
            self.refuses_all(InvalidTerm, function, (("power", X1, 12),), not_terms)

    def test_each_name_is_defined_here(self):
        for name in "makers_of are_one".split():
            self.assertEqual(getattr(valueforms, name).__module__, "towerback.valueforms")


def inner_steps(term):
    """Return the pairs (word, term in it) of the outer logs and exps of a term."""
    if term[0] in ("log", "exp"):
        return [(term[0], term[1])]
    return [step for part in term[1:] if isinstance(part, tuple) for step in inner_steps(part)]


def is_nought(term):
    """Tell whether a term is nought."""
    return are_one(term, W0)


if __name__ == "__main__":
    unittest.main()
