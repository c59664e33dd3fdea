"""Points 40 and 105: texts of terms, read."""

import unittest

from tests.support import Asks, any_values, chances
from tests.term_support import W0, W1, W2, X1, is_text, random_term
from towerback import termreading
from towerback.errors import PaperError, TooMany
from towerback.termerrors import BadText, InvalidText
from towerback.termreading import first_refused, read_term
from towerback.terms import height_of, is_term
from towerback.termwriting import write_term

# What can be put behind a text that has begun as one: so texts that begin like it are looked for.
ENDS = ["", "x", "g(x)", "og(x)", "p(x)", "xp(x)", "(x)", "0", "1", "+x"]
NOT_TEXTS = [value for value in any_values() if not isinstance(value, str)] + ["x" * 401, " " * 401, "x+" * 200 + "x", ["x"], ("x",), 1]


def can_go_on(text):
    """Tell whether some text of a term begins with a text, by trial of some ends and of brackets that are missing."""
    closing = ")" * max(0, text.count("(") - text.count(")"))
    for end in ENDS:
        for more in range(10):
            if is_text(text + end + ")" * more) or is_text(text + end + closing):
                return True
    return False


def spread_out(chance, text):
    """Return a text with blanks wherever they may be."""
    found, at = "", 0
    while at < len(text):
        token = next((word for word in ("log", "exp") if text.startswith(word, at)), text[at])
        if token.isdigit():
            while text[at:at + len(token) + 1].isdigit() and at + len(token) < len(text):
                token = text[at:at + len(token) + 1]
        found += " " * chance.choice((0, 0, 1, 3)) + token
        at += len(token)
    return found + " " * chance.randint(0, 2)


class TermReading(Asks, unittest.TestCase):
    def test_terms(self):
        cases = {
            "x": X1, " 0 ": W0, "1000000": ("whole", 10 ** 6), "-x": ("negative", X1), "1-2-3": ("minus", ("minus", W1, W2), ("whole", 3)),
            "1-(2-3)": ("minus", W1, ("minus", W2, ("whole", 3))), "x/2/x": ("over", ("over", X1, W2), X1), "x*2/x": ("over", ("times", X1, W2), X1),
            "-x*2": ("negative", ("times", X1, W2)), "-x+1": ("plus", ("negative", X1), W1), "-x^2": ("negative", ("power", X1, 2)),
            "(-x)^2": ("power", ("negative", X1), 2), "2^0": ("power", W2, 0), "x^12": ("power", X1, 12), "x ^ 1": ("power", X1, 1),
            "log(x)^2*exp(-x)": ("times", ("power", ("log", X1), 2), ("exp", ("negative", X1))), "((x))": X1, "log ( x )": ("log", X1),
            "exp(log(x))": ("exp", ("log", X1)), " 2 * x ^ 2": ("times", W2, ("power", X1, 2)), "1+x*2": ("plus", W1, ("times", X1, W2)),
            "-log(x)/3": ("negative", ("over", ("log", X1), ("whole", 3))), "x+(-1)": ("plus", X1, ("negative", W1)), "(x+1)*(x-1)": ("times", ("plus", X1, W1), ("minus", X1, W1)),
            "( -1 )": ("negative", W1), "- 1 - 1": ("minus", ("negative", W1), W1), "(x^2)^3": ("power", ("power", X1, 2), 3),
        }
        for text, term in cases.items():
            self.assertEqual(read_term(text), term, text)
            self.assertIsNone(first_refused(text))

    def test_written_terms_are_read(self):
        chance = chances(105)
        for _ in range(300):
            term = random_term(chance, 5)
            text = write_term(term)
            if len(text) <= 400:
                self.assertEqual(read_term(text), term)
                wide = spread_out(chance, text)
                if len(wide) <= 400:
                    self.assertEqual(read_term(wide), term, wide)

    def test_refused_places(self):
        cases = {
            "": 0, " ": 1, "-": 1, "lo": 2, "log": 3, "logx": 3, "log x": 4, "l og(x)": 1, "lg(x)": 1, "ex": 2, "e": 1, "exq": 2, "x+*2": 2, "x^13": 3, "x^20": 3,
            "x^": 2, "x^x": 2, "x^-1": 2, "x^01": 3, "x^2^3": 3, "x^1 2": 4, "01": 1, "00": 1, "1000001": 6, "10000000": 7, "2000000": 6, "1 0": 2, "12 3": 3, "2x": 1, "x2": 1,
            "xx": 1, "x x": 2, "--x": 1, "x+-x": 2, "x*-x": 2, "+x": 0, "*": 0, "x)": 1, "(x": 2, "(x))": 3, "()": 1, "(": 1, ")": 0, "x+": 2, "x + ": 4, "x(x)": 1, "(x)(x)": 3,
            "log()": 4, "log(x": 5, "X": 0, "sin(x)": 0, "x\n": 1, "\nx": 0, "x.5": 1, "x=1": 1, "3!": 1, "x^2.": 3, "log(x)x": 6, "x-": 2, "(-)": 2, "(x-)": 3, "1e3": 1, "x^ 3 ^2": 5,
            "x/": 2, "x//x": 2, "x**2": 2, "-+x": 1, "exp x": 4, "loge(x)": 3, "[x]": 0, "x,": 1, "0x": 1, "1_0": 1,
        }
        for text, place in cases.items():
            self.assertEqual(first_refused(text), place, text)
            with self.assertRaises(BadText) as caught:
                read_term(text)
            self.assertEqual(caught.exception.place, place, text)
            self.assertIs(type(caught.exception), BadText)
            self.assertIsInstance(caught.exception, PaperError)

    def test_brackets(self):
        """8 deep, those of log and exp too; behind these, names are refused at their first character."""
        for word in ("", "log", "exp"):
            for inner in ("x", "-1", "1 + 2"):
                text = (word + "(") * 8 + inner + ")" * 8
                self.assertIsNone(first_refused(text), text)
                deep = (word + "(") * 9 + inner + ")" * 9
                self.assertEqual(first_refused(deep), 8 * (len(word) + 1), deep)
        eight = "(" * 8
        for text, place in ((eight + "(", 8), (eight + "l", 8), (eight + "exp(x)", 8), (eight + "x+log(x)", 10), (eight + "-(x)", 9), (eight + "x", 9), (eight, 8), (eight + "2^ x", 11),
                            ("(" * 7 + "log", 10), ("(" * 7 + "log (x", 13), ("(" * 7 + "log( (", 12)):
            self.assertEqual(first_refused(text), place, text)
        self.assertIsNone(first_refused("+".join(["(" * 8 + "x" + ")" * 8] * 3)))

    def test_refusals_by_trial(self):
        """Texts begin as texts of terms up to the place told, and none begins with the place itself included."""
        chance, refused = chances(40), 0
        for _ in range(1500):
            text = write_term(random_term(chance, 4))[:30] if chance.randrange(2) else ""
            for _ in range(chance.randint(0, 3)):
                at = chance.randint(0, len(text))
                text = text[:at] + chance.choice("x0123+-*/^() logexpz") + text[at + chance.randint(0, 1):]
            place = first_refused(text)
            self.assertEqual(place is None, is_text(text), text)
            if place is not None:
                refused += 1
                self.assertLessEqual(place, len(text))
                self.assertTrue(can_go_on(text[:place]), (text, place))
                if place < len(text):
                    self.assertFalse(can_go_on(text[:place + 1]), (text, place))
        self.assertGreater(refused, 500)

    def test_heights(self):
        """16 for reading, behind what is refused; first_refused has no such limit."""
        for many, high in ((15, 16), (16, 17)):
            text = "+".join(["x"] * (many + 1))
            self.assertIsNone(first_refused(text))
            if high == 16:
                self.assertEqual(height_of(read_term(text)), 16)
            else:
                with self.assertRaises(TooMany) as caught:
                    read_term(text)
                self.assertEqual(caught.exception.limit, 16)
            self.refused(BadText, read_term, text + "+")
        text = "-log(" * 8 + "x" + ")" * 8
        self.assertEqual(height_of(read_term(text[1:])), 16)
        self.refused(TooMany, read_term, text)
        self.refused(TooMany, read_term, "x" + "-x" * 199)
        self.assertIsNone(first_refused("x" + "-x" * 199))
        self.assertIs(is_term(read_term("x" + "-x" * 15)), True)

    def test_lengths(self):
        for text in ("x" + " " * 399, " " * 399 + "x", "1" + "*1" * 10 + " " * 379):
            self.assertEqual(len(text), 400)
            self.assertIsNone(first_refused(text))
            read_term(text)
            self.refused(InvalidText, read_term, text + " ")
            self.refused(InvalidText, first_refused, text + " ")
        self.assertEqual(first_refused(" " * 400), 400)
        self.assertEqual(first_refused("x" * 400), 1)

    def test_wrong_arguments(self):
        for call in (read_term, first_refused):
            self.refuses_all(InvalidText, call, (), NOT_TEXTS)
        for value in any_values():
            if isinstance(value, str):
                self.assertIsNotNone(first_refused(value))

    def test_each_name_is_defined_here(self):
        for name in "read_term first_refused".split():
            self.assertEqual(getattr(termreading, name).__module__, "towerback.termreading")


if __name__ == "__main__":
    unittest.main()
