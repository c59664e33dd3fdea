"""Points 41 and 106: texts written of terms."""

import unittest

from tests.support import Asks, chances
from tests.term_support import NOT_TERMS, W1, W2, X1, chain, is_text, of_many, random_term
from towerback import termwriting
from towerback.termerrors import InvalidTerm
from towerback.termreading import read_term
from towerback.termwriting import write_term


def without_brackets(text):
    """Return the texts that are this one without one of its pairs of brackets, but for those of log and exp."""
    found, waiting = [], []
    for at, char in enumerate(text):
        if char == "(":
            waiting.append(at)
        elif char == ")":
            first = waiting.pop()
            if text[max(0, first - 1):first] not in ("g", "p"):
                found.append(text[:first] + text[first + 1:at] + text[at + 1:])
    return found


class TermWriting(Asks, unittest.TestCase):
    def test_read_back(self):
        """The text is read as this very term, has no blanks, and none of its brackets can go."""
        chance, gone = chances(106), 0
        for _ in range(500):
            term = random_term(chance, chance.randint(1, 6))
            text = write_term(term)
            self.assertNotIn(" ", text)
            if len(text) <= 400 and is_text(text):
                self.assertEqual(read_term(text), term)
                for other in without_brackets(text):
                    gone += 1
                    self.assertFalse(is_text(other) and read_term(other) == term, (text, other))
        self.assertGreater(gone, 300)

    def test_known_texts(self):
        plus, times, over, minus = ("plus", X1, W1), ("times", X1, W2), ("over", X1, W2), ("minus", X1, W1)
        negative, power = ("negative", X1), ("power", X1, 2)
        cases = {
            "x": X1, "1": W1, "1000000": ("whole", 10 ** 6), "0": ("whole", 0), "-x": negative, "x^2": power, "x^0": ("power", X1, 0), "log(x)": ("log", X1), "exp(-x)": ("exp", negative),
            "log(x+1)": ("log", plus), "log(x)^2": ("power", ("log", X1), 2), "1^12": ("power", W1, 12), "(x^2)^3": ("power", power, 3), "(-x)^2": ("power", negative, 2),
            "(x+1)^2": ("power", plus, 2), "(x*2)^2": ("power", times, 2), "x*2*2": ("times", times, W2), "x*(x*2)": ("times", X1, times), "x/2*x": ("times", over, X1),
            "x*(x/2)": ("times", X1, over), "x/(x/2)": ("over", X1, over), "x/2/x": ("over", over, X1), "x/(x*2)": ("over", X1, times), "x*2/x": ("over", times, X1),
            "(x+1)*x": ("times", plus, X1), "x*(x+1)": ("times", X1, plus), "(x-1)/(x+1)": ("over", minus, plus), "(-x)*x": ("times", negative, X1), "x*(-x)": ("times", X1, negative),
            "x^2*x^2": ("times", power, power), "x+1+1": ("plus", plus, W1), "x+(x+1)": ("plus", X1, plus), "x-1+x": ("plus", minus, X1), "x-(x-1)": ("minus", X1, minus),
            "x-(x+1)": ("minus", X1, plus), "x+x*2": ("plus", X1, times), "x*2-x": ("minus", times, X1), "-x+1": ("plus", negative, W1), "1+(-x)": ("plus", W1, negative),
            "1-(-x)": ("minus", W1, negative), "-x-1": ("minus", negative, W1), "-(x+1)": ("negative", plus), "-(x-1)": ("negative", minus), "-x*2": ("negative", times),
            "-x/2": ("negative", over), "-x^2": ("negative", power), "-(-x)": ("negative", negative), "-log(x)": ("negative", ("log", X1)), "(-x)*(2*x)-(1-x)":
            ("minus", ("times", negative, ("times", W2, X1)), ("minus", W1, X1)),
        }
        for text, term in cases.items():
            self.assertEqual(write_term(term), text)
            self.assertEqual(read_term(text), term)

    def test_great_terms(self):
        """Of any length: of the greatest height, and of 20,000 terms."""
        self.assertEqual(write_term(chain(59)), "-(" * 58 + "-x" + ")" * 58)
        text = write_term(of_many(20000))
        self.assertGreater(len(text), 20000)
        self.assertEqual(text.count("x"), write_term(of_many(20000)).count("x"))
        self.assertEqual(write_term(("times", of_many(3), of_many(3))), "(x+x)*(x+x)")

    def test_wrong_arguments(self):
        self.refuses_all(InvalidTerm, write_term, (), NOT_TERMS + [chain(60), of_many(20001), "x"])

    def test_each_name_is_defined_here(self):
        self.assertEqual(termwriting.write_term.__module__, "towerback.termwriting")


if __name__ == "__main__":
    unittest.main()
