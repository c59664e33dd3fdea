"""Points 42 and 107: derivatives of terms."""

import unittest

from tests.support import Asks, chances
from tests.term_support import NOT_TERMS, W0, W1, W2, X1, all_parts, chain, of_many, random_term
from towerback import termslopes
from towerback.errors import TooMany
from towerback.termerrors import InvalidTerm
from towerback.termreading import read_term
from towerback.terms import height_of, is_term
from towerback.termslopes import derived_term
from towerback.termwriting import write_term


def plain_slope(term):
    """Return the derivative of a term, by the words of the document."""
    sort = term[0]
    if sort in ("whole", "x"):
        return ("whole", 1 if sort == "x" else 0)
    a = term[1]
    if sort == "power":
        e = term[2]
        return ("whole", 0) if e == 0 else ("times", ("times", ("whole", e), ("power", a, e - 1)), plain_slope(a))
    if sort == "negative":
        return ("negative", plain_slope(a))
    if sort == "log":
        return ("over", plain_slope(a), a)
    if sort == "exp":
        return ("times", plain_slope(a), ("exp", a))
    b = term[2]
    if sort in ("plus", "minus"):
        return (sort, plain_slope(a), plain_slope(b))
    if sort == "times":
        return ("plus", ("times", plain_slope(a), b), ("times", a, plain_slope(b)))
    return ("over", ("minus", ("times", plain_slope(a), b), ("times", a, plain_slope(b))), ("power", b, 2))


class TermSlopes(Asks, unittest.TestCase):
    def test_derivatives(self):
        chance = chances(107)
        for _ in range(300):
            term = random_term(chance, chance.randint(1, 6))
            slope = derived_term(term)
            self.assertEqual(slope, plain_slope(term))
            self.assertIs(is_term(slope), True)

    def test_known_derivatives(self):
        self.assertEqual([derived_term(term) for term in (W0, ("whole", 7), X1, ("negative", X1))], [W0, W0, W1, ("negative", W1)])
        self.assertEqual(derived_term(("power", ("log", W0), 0)), W0)
        self.assertEqual(derived_term(("power", X1, 1)), ("times", ("times", W1, ("power", X1, 0)), W1))
        self.assertEqual(derived_term(("power", W2, 12)), ("times", ("times", ("whole", 12), ("power", W2, 11)), W0))
        for text, slope in (("x*log(x)", "1*log(x)+x*(1/x)"), ("x+x^2", "1+2*x^1*1"), ("2-x", "0-1"), ("1/x", "(0*x-1*1)/x^2"), ("exp(-x)", "(-1)*exp(-x)"), ("log(2*x)", "(0*x+2*1)/(2*x)"), ("-x*2", "-(1*2+x*0)"),
                            ("(x+1)^3", "3*(x+1)^2*(1+0)")):
            self.assertEqual(write_term(derived_term(read_term(text))), slope)

    def test_limits(self):
        """16 for the height, then 400 for the terms of which it is built; what is told is a term again."""
        self.assertEqual(height_of(derived_term(chain(15))), 16)
        self.limited(16, chain(16))
        self.limited(16, chain(59))
        self.assertEqual(len(all_parts(of_many(400))), 400)
        self.assertEqual(len(all_parts(derived_term(of_many(400)))), 400)
        self.limited(400, of_many(401))
        self.limited(400, of_many(20000))
        high = chain(3, of_many(20000 - 3))
        self.assertGreater(height_of(high), 16)
        self.limited(16, high)
        # Each derivative within the limits is a term, also where parts stand in it over and over.
        for sort in ("times", "over"):
            tall = of_many(370)
            while height_of(tall) < 16:
                tall = (sort, X1, tall)
            self.assertIs(is_term(derived_term(tall)), True)
            self.assertGreater(len(all_parts(derived_term(tall))), 2000)

    def limited(self, limit, term):
        """Ask that a derivative raises TooMany with a limit."""
        self.assertIs(is_term(term), True)
        with self.assertRaises(TooMany) as caught:
            derived_term(term)
        self.assertEqual(caught.exception.limit, limit)

    def test_wrong_arguments(self):
        self.refuses_all(InvalidTerm, derived_term, (), NOT_TERMS + [chain(60), of_many(20001), "x"])

    def test_each_name_is_defined_here(self):
        self.assertEqual(termslopes.derived_term.__module__, "towerback.termslopes")


if __name__ == "__main__":
    unittest.main()
