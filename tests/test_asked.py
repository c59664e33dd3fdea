"""Point 116: questions asked, and answers told."""

import unittest

from tests.support import Asks, chances
from tests.term_support import random_term
from tests.test_termled import EXP
from tests.test_termreading import NOT_TEXTS
from tests.test_towers import U, W, rational
from towerback import asked as module
from towerback.answertexts import write_answer
from towerback.asked import asked, told
from towerback.errors import InvalidNumber, PaperError, TooMany
from towerback.integrated import integrated
from towerback.judge import takes
from towerback.termerrors import AtPart, BadText, ConstantStep, InvalidAnswer, InvalidText, TooDeep, ZeroLog, ZeroUnder
from towerback.termled import thing_in, tower_of
from towerback.termreading import read_term
from towerback.termslopes import derived_term
from towerback.termwriting import write_term
from towerback.towers import last_unknown

# Texts of questions, and what is told.
TOLD = {
    "0": "0", "1": "x", "2*x": "x^2", "1/x": "log(x)", "x*exp(x)": "(x-1)*exp(x)", "exp(x)/x": "none", "log(x)": "x*log(x)-x", "1/(x^2+1)": "sum(c*log(2*c+x) for c^2+1/4=0)", "-1/x^2": "1/x",
    "3/(x-1)-1/2/(x+1)": "3*log(x-1)-1/2*log(x+1)", "exp(-x^2)": "none", "x*exp(-x^2)": "-1/2*exp(-x^2)", "1/log(x)": "none", "1/(x*log(x))": "log(log(x))", "log(x)/x": "1/2*log(x)^2", "log(x+1)/x": "none",
    "1/(1+exp(x))": "x-log(exp(x)+1)", "exp(x)/(1+exp(x)^2)": "sum(c*log(2*c+exp(x)) for c^2+1/4=0)", "log(x)*exp(x)": "open", "log(x)*exp(x)+exp(x)/x": "log(x)*exp(x)", "1/(log(x)+exp(x))": "open",
    "log(1)+exp(0)": "x", "exp(x)^0": "x", "1/(x^2-2)": "sum(c*log(-(4*c-x)) for c^2-1/8=0)", "log(x)^2": "x*log(x)^2-2*x*log(x)+2*x", "1/exp(x)": "-1/exp(x)", " log ( x ) ": "x*log(x)-x",
}


class Asked(Asks, unittest.TestCase):
    def at_part(self, error, path, text):
        """Ask that a text raises an error with the path of a part, asked and told."""
        for call in (asked, told):
            with self.assertRaises(AtPart, msg=text) as caught:
                call(text)
            self.assertEqual((type(caught.exception), caught.exception.path), (error, path), text)

    def limited(self, limit, text, calls=(asked, told)):
        """Ask that a text raises TooMany with a limit."""
        for call in calls:
            with self.assertRaises(TooMany, msg=text) as caught:
                call(text)
            self.assertEqual(caught.exception.limit, limit, text)

    def test_known_answers(self):
        for text, answer in TOLD.items():
            self.check(text)
            self.assertEqual(told(text), answer, text)
        self.assertEqual(asked("1/x"), ((), W, ("yes", rational(), ((((-1, 1), (1, 1)), (U,)),))))
        self.assertEqual(asked("exp(x)"), ((EXP,), last_unknown((EXP,)), ("yes", last_unknown((EXP,)), ())))

    def check(self, text):
        """Ask that a text's answer is as told, by the tower and the thing of its term."""
        tower, thing, answer = asked(text)
        term = read_term(text)
        self.assertEqual((tower, thing), (tower_of(term), thing_in(tower, term)))
        self.assertEqual(answer, integrated(tower, thing))
        self.assertIs(takes(tower, thing, answer), True)
        if answer[0] == "yes":
            self.assertEqual(told(text), write_answer(tower, answer[1:]))
        else:
            self.assertEqual(told(text), {"no": "none", "open": "open"}[answer[0]])

    def test_some_texts(self):
        """Terms by chance, and their derivatives, which have a "yes" for towers of at most one step."""
        chance, done = chances(116), 0
        for _ in range(250):
            term = random_term(chance, 4)
            for slope in (False, True):
                text = write_term(derived_term(term) if slope else term)
                try:
                    tower = tower_of(term)
                    self.check(text)
                except PaperError:
                    continue
                done += 1
                if slope and asked(text)[0] == tower and len(tower) < 2:
                    self.assertEqual(asked(text)[2][0], "yes", text)
        self.assertGreater(done, 150)

    def test_errors(self):
        for text, place in (("", 0), ("x+*2", 2), ("log", 3), ("x^13", 3), ("2x", 1), ("log(log(x)", 10), ("1/(x-x", 6)):
            for call in (asked, told):
                with self.assertRaises(BadText) as caught:
                    call(text)
                self.assertEqual(caught.exception.place, place, text)
        self.at_part(TooDeep, (0,), "log(log(x))")
        self.at_part(TooDeep, (1, 0, 0), "x+exp(log(x)/2)")
        self.at_part(ZeroLog, (), "log(x-x)")
        self.at_part(ConstantStep, (), "exp(1)")
        self.at_part(ConstantStep, (0,), "log(2)/(x-x)")
        self.at_part(ZeroUnder, (), "x/(1-1)")
        self.at_part(ZeroUnder, (0,), "-(1/(x-x))")
        self.at_part(ZeroUnder, (0,), "exp(x/0)")
        # What is wrong in a log comes ahead of what is divided by nought elsewhere.
        self.at_part(ZeroLog, (1,), "1/(x-x)+log(0)")

    def test_limits_in_their_order(self):
        self.limited(16, "x" + "+x" * 16)
        self.limited(16, "log(0)" + "+x^12*x^12*x^12*x^12*x^12*x" * 14)
        self.limited(60, "(x^12)^5*x")
        self.limited(60, "log(0)+(x^12)^5*x")
        self.limited(60, "log(log(x^12*x^12*x^12*x^12*x^12*x))")
        self.limited(1000, "((1000000^12)^12)+log(0)")
        self.limited(10 ** 100, "log(x+(10^10)^10+1)/(x-x)")
        self.limited(3, "log(x)+exp(x)+log(x+1)+exp(x+1)+1/(x-x)")
        self.at_part(ZeroUnder, (1,), "log(x)+exp(x)+log(x+1)+1/(x-x)")
        # What is too great to be handed in, ahead of the limits for one step.
        for call in (asked, told):
            self.refused(InvalidNumber, call, "x+(10^10)^10*10")
            self.refused(InvalidNumber, call, "exp(x^7)*((10^10)^10+1)")
            self.refused(InvalidNumber, call, "log(x)+(10^10)^11")
        self.limited(6, "exp(x^7)")
        self.limited(4, "log(x)^5")
        self.limited(6, "log(x)^4*x^7")
        self.limited(6, "exp(x^7)^5*x^7")
        self.limited(4, "exp(x)^5*x^7")
        self.limited(40, "log(x)*exp(x)*x^12*x^12*x^12*x^6")
        self.limited(12, "1/(x^12*x+1)")

    def test_what_write_answer_raises(self):
        """Asked there is an answer; told, it is too long, or too great."""
        for text, limit in (("x^12", 12), ("x^12*x^12", 12), ("1000000*x^2*7", 10 ** 6), ("1000000/x*7", 10 ** 6), ("exp(x)*x^6*2000", 10 ** 6)):
            self.assertEqual(asked(text)[2][0], "yes")
            self.limited(limit, text, (told,))
        self.assertEqual(told("x^11"), "1/12*x^12")
        self.assertEqual(told("12*x^11"), "x^12")
        self.assertEqual(told("1000000*x"), "500000*x^2")
        # An answer that is too great to be handed in is no answer.
        text = "x*10^12*(10^12)^7*10^3+1/x"
        self.assertEqual(asked(text)[2][0], "yes")
        self.limited(10 ** 6, text, (told,))
        long = "x^12*x^12*x^12*x^12*x^12"
        self.assertEqual(asked(long)[2][0], "yes")
        self.refused(InvalidAnswer, told, long)

    def test_wrong_arguments(self):
        for call in (asked, told):
            self.refuses_all(InvalidText, call, (), NOT_TEXTS)

    def test_each_name_is_defined_here(self):
        for name in "asked told".split():
            self.assertEqual(getattr(module, name).__module__, "towerback.asked")


if __name__ == "__main__":
    unittest.main()
