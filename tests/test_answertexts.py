"""Points 45, 110 and 111: answers as terms and texts."""

import unittest

from tests.support import GREATEST, X, Asks, any_values, changed, chances, random_number, trimmed
from tests.term_support import W1, W2, X1
from tests.test_rootsums import NO_TOWERS
from tests.test_termback import plain_line, plain_term, told_unknowns
from tests.test_termled import EXP, LOG, THREE
from tests.test_towers import TOWERS, U, W, rational
from towerback import answertexts
from towerback.answertexts import answer_term, is_answer, write_answer
from towerback.errors import InvalidTower, TooMany
from towerback.fieldways import is_line, is_number, negative_of, number_of
from towerback.integrated import integrated
from towerback.rootlifts import with_root
from towerback.termerrors import InvalidAnswer
from towerback.termreading import read_term
from towerback.terms import height_of
from towerback.termwriting import write_term
from towerback.towers import field_of, last_unknown, lifted_thing

NOUGHT, ONE = rational(), rational(1)
LOG_X = ("log", X1)
FQ = ((1, 4), (0, 1), (1, 1))


def single(over, under, thing):
    """Return the sum over the root over / under, of the logarithm of a thing of ()."""
    return ((-over, under), (1, 1)), (thing,)


def lifted(tower, *numbers):
    """Return a line, with a root, of rational functions."""
    return trimmed(field_of(tower), [lifted_thing(tower, number) for number in numbers])


class AnswerTexts(Asks, unittest.TestCase):
    def limited(self, limit, function, *arguments):
        """Ask that a call raises TooMany with a limit."""
        with self.assertRaises(TooMany) as caught:
            function(*arguments)
        self.assertEqual(caught.exception.limit, limit, arguments)

    def test_what_is_an_answer(self):
        self.assertIs(is_answer((), (NOUGHT, ())), True)
        # The line of a sum may be any monic one: of the root 0, one that can be split, one with a root twice.
        lines = [((0, 1), (1, 1)), ((-1, 1), (1, 1)), ((0, 1), (0, 1), (1, 1)), ((-1, 1), (0, 1), (1, 1)), FQ, ((2, 1),) + ((0, 1),) * 11 + ((1, 1),)]
        for tower in TOWERS[:6]:
            for line in lines:
                self.assertIs(is_answer(tower, (lifted_thing(tower, W), ((line, lifted(tower, U)),))), True)
                many = ((line, lifted(tower, U)),)
                self.assertIs(is_answer(tower, (last_unknown(tower), many * 16)), True)
                self.assertIs(is_answer(tower, (last_unknown(tower), many * 17)), False)
                self.assertIs(is_answer(tower, (last_unknown(tower), ((line, lifted(tower, *[U] * (len(line) - 1))),))), True)
                self.assertIs(is_answer(tower, (last_unknown(tower), ((line, lifted(tower, *[U] * len(line))),))), False)
                self.assertIs(is_answer(tower, (last_unknown(tower), ((line, ()),))), False)

    def test_what_is_none(self):
        good = (U, (single(1, 1, U), (FQ, (U, rational(2)))))
        self.assertIs(is_answer((), good), True)
        for value in any_values():
            self.assertIs(is_answer((), value), False)
            self.assertIs(is_answer((), (value, ())), False)
            if value != ():
                self.assertIs(is_answer((), (U, value)), False)
            self.assertIs(is_answer((), (U, (value,))), False)
            self.assertIs(is_answer((), (U, ((value, (U,)),))), False)
            self.assertIs(is_answer((), (U, ((FQ, value),))), False)
            self.assertIs(is_answer((), (U, ((FQ, (U, value)),))), False)
        for value in changed(good):
            if is_answer((), value):
                self.assertTrue(is_number(X, value[0]))
                for line, thing in value[1]:
                    self.assertTrue(is_line(0, line) and line[-1] == (1, 1) and 1 <= len(thing) < len(line) and is_line(X, thing))
        for line in ((), ((1, 1),), ((1, 1), (2, 1)), ((1, 1), (0, 1)), ((2, 2), (1, 1)), ((0, 1),) * 13 + ((1, 1),), ((1, 1), (1,)), [(-1, 1), (1, 1)], ((GREATEST + 1, 1), (1, 1))):
            self.assertIs(is_answer((), (U, ((line, (U,)),))), False, line)
        for thing in ((NOUGHT,), (U, NOUGHT), [U], (rational(GREATEST + 1),), ((U[0], U[0]),), (lifted_thing((LOG,), U),)):
            self.assertIs(is_answer((), (U, ((FQ, thing),))), False, thing)
        self.assertIs(is_answer((LOG,), good), False)
        self.assertIs(is_answer((), [U, ()]), False)
        self.assertIs(is_answer((), (U, [])), False)
        self.assertIs(is_answer((), (U, (), ())), False)
        self.assertIs(is_answer((), (U,)), False)

    def test_terms_and_texts(self):
        half = (((1, 2),), ((1, 1),))
        cases = [
            ((NOUGHT, ()), "0"), ((U, ()), "x"), ((rational(2, -3), ()), "-(3*x-2)"), ((NOUGHT, (single(1, 1, U),)), "log(x)"), ((NOUGHT, (single(-1, 1, U),)), "-log(x)"),
            ((NOUGHT, (single(2, 1, U),)), "2*log(x)"), ((NOUGHT, (single(-2, 3, U),)), "-2/3*log(x)"), ((NOUGHT, (single(1, 2, U), single(-2, 1, rational(1, 1)))), "1/2*log(x)-2*log(x+1)"),
            ((U, (single(1, 1, U),)), "x+log(x)"), ((U, (single(-1, 1, U),)), "x-log(x)"), ((U, (single(5, 1, U), single(-1, 7, W))), "x+5*log(x)-1/7*log(1/x)"),
            ((NOUGHT, (single(0, 1, U),)), "0*log(x)"), ((U, (single(0, 1, U),)), "x+0*log(x)"), ((rational(-1), (single(-1, 1, U),)), "-1-log(x)"), ((NOUGHT, (single(1, 1, rational(2, -1)),)), "log(-(x-2))"),
            ((NOUGHT, (single(1, 1, rational(-1)),)), "log(-1)"), ((half, (single(3, 1, ONE),)), "1/2+3*log(1)"), ((rational(1, -1), (single(3, 1, U),)), "-(x-1)+3*log(x)"),
        ]
        for answer, text in cases:
            self.assertEqual(write_answer((), answer), text)
            self.assertEqual(write_term(answer_term((), answer)), text)
            self.assertEqual(answer_term((), answer), read_term(text))
        self.assertEqual(answer_term((), (NOUGHT, (single(-1, 1, U),))), ("negative", LOG_X))
        self.assertEqual(answer_term((), (NOUGHT, (single(-2, 1, U),))), ("negative", ("times", W2, LOG_X)))
        self.assertEqual(answer_term((), (U, (single(-2, 1, U),))), ("minus", X1, ("times", W2, LOG_X)))
        self.assertEqual(answer_term((), (U, (single(-1, 2, U),))), ("minus", X1, ("times", ("over", W1, W2), LOG_X)))

    def test_sums_over_several_roots(self):
        third = ((-1, 2), (1, 3), (0, 1), (1, 1))
        cases = [
            ((NOUGHT, ((FQ, (U, rational(2))),)), "sum(c*log(2*c+x) for c^2+1/4=0)"), ((U, ((FQ, (U, rational(2))),)), "x+sum(c*log(2*c+x) for c^2+1/4=0)"),
            ((U, ((FQ, (U,)),)), "x+sum(c*log(x) for c^2+1/4=0)"), ((NOUGHT, ((FQ, (NOUGHT, rational(-1, 2))),)), "sum(c*log((2*x-1)*c) for c^2+1/4=0)"),
            ((NOUGHT, ((FQ, (U, rational(-2))),)), "sum(c*log(-(2*c-x)) for c^2+1/4=0)"), ((NOUGHT, ((FQ, (rational(0, -1), rational(1))),)), "sum(c*log(c-x) for c^2+1/4=0)"),
            ((NOUGHT, ((third, (W, NOUGHT, rational(1, -3))),)), "sum(c*log(-((3*x-1)*c^2-1/x)) for c^3+1/3*c-1/2=0)"),
            ((NOUGHT, (single(-3, 1, U), (FQ, (U, rational(2))), single(1, 1, U))), "-3*log(x)+sum(c*log(2*c+x) for c^2+1/4=0)+log(x)"),
            ((NOUGHT, ((((-1, 1), (0, 1), (1, 1)), (rational(-1),)),)), "sum(c*log(-1) for c^2-1=0)"), ((NOUGHT, ((((0, 1), (0, 1), (1, 1)), (U, ONE)),)), "sum(c*log(c+x) for c^2=0)"),
        ]
        for answer, text in cases:
            self.assertEqual(write_answer((), answer), text)
            self.assertIsNone(answer_term((), answer))

    def test_answers_of_towers(self):
        """Texts of what is told are made of the terms of the thing and of the lines."""
        t = last_unknown((LOG,))
        self.assertEqual(write_answer((LOG,), (t, ((((-1, 1), (1, 1)), (t,)),))), "log(x)+log(log(x))")
        self.assertEqual(answer_term((LOG,), (t, ((((-1, 1), (1, 1)), (t,)),))), ("plus", LOG_X, ("log", LOG_X)))
        self.assertEqual(write_answer((EXP,), (lifted_thing((EXP,), NOUGHT), ((FQ, (last_unknown((EXP,)), lifted_thing((EXP,), rational(2)))),))), "sum(c*log(2*c+exp(x)) for c^2+1/4=0)")
        for seed, tower in enumerate(TOWERS[:8]):
            chance, field = chances(seed), field_of(tower)
            for _ in range(12):
                thing, line = random_number(chance, field, 1), ((chance.randint(-5, 5), chance.randint(1, 3)), (1, 1))
                line = ((number_of(0, line[0][0], line[0][1])), (1, 1))
                inner = random_number(chance, field, 1)
                long = random_number(chance, with_root(field, FQ), 1)
                if inner[0] == () or long == () or not is_answer(tower, (thing, ((line, (inner,)), (FQ, long)))):
                    continue
                names = told_unknowns(tower)
                root = number_of(0, -line[0][0], line[0][1])
                logarithm = ("log", plain_term(names, inner))
                size = (abs(root[0]), root[1])
                part = logarithm if size == (1, 1) else ("times", plain_term([], size), logarithm)
                word = "minus" if root[0] < 0 else "plus"
                if thing == number_of(field, 0, 1):
                    term = ("negative", part) if word == "minus" else part
                else:
                    term = (word, plain_term(names, thing), part)
                try:
                    self.assertEqual(answer_term(tower, (thing, ((line, (inner,)),))), term)
                except TooMany as error:
                    self.assertEqual(error.limit, 10 ** 6)
                    continue
                text = write_answer(tower, (thing, ((line, (inner,)),)))
                self.assertEqual(text, write_term(term))
                if len(tower) < 2:
                    with_c = write_answer(tower, (thing, ((FQ, long),)))
                    self.assertEqual(with_c, self.told_with_roots(tower, thing, long), (thing, long))

    def told_with_roots(self, tower, thing, long):
        """Return the text of a thing and of a sum over the roots of FQ, exp(10 ** 5) standing for c among terms."""
        names = told_unknowns(tower)
        mark = ("exp", ("whole", 10 ** 5))
        below = plain_term(names, long[-1])[0] == "negative"
        field = field_of(tower)
        line = tuple(negative_of(field, number) for number in long) if below else long
        term = plain_line(names + [mark], line)
        text = write_term(("log", ("negative", term) if below else term)).replace("exp(100000)", "c")
        first = "" if thing == number_of(field, 0, 1) else write_term(plain_term(names, thing)) + "+"
        return first + "sum(c*" + text + " for c^2+1/4=0)"

    def test_answers_that_are_told(self):
        for tower, thing, text in (((), W, "log(x)"), ((), (((1, 1),), ((1, 1), (0, 1), (1, 1))), "sum(c*log(2*c+x) for c^2+1/4=0)"), ((LOG,), last_unknown((LOG,)), "x*log(x)-x"),
                                   ((EXP,), ((ONE,), (ONE, ONE)), "x-log(exp(x)+1)")):
            answer = integrated(tower, thing)
            self.assertEqual((answer[0], write_answer(tower, answer[1:])), ("yes", text))

    def test_limits(self):
        """12 for lines, then 10 ** 6 for integers: in the thing, the sums, their lines, and the steps."""
        long, great = (((0, 1),) * 13 + ((1, 1),), ((1, 1),)), rational(10 ** 6 + 1)
        good = (((0, 1),) * 12 + ((1, 1),), ((1, 1),))
        twelve = ((2, 1),) + ((0, 1),) * 11 + ((1, 1),)
        cases = [
            (12, (), (long, ())), (12, (), (U, (single(1, 1, long),))), (12, (), (great, (single(1, 1, long),))), (12, (), (U, ((twelve, (U, long)),))),
            (10 ** 6, (), (great, ())), (10 ** 6, (), (U, (single(1, 1, great),))), (10 ** 6, (), (U, (single(10 ** 6 + 1, 1, U),))), (10 ** 6, (), (U, (single(1, 10 ** 6 + 1, U),))),
            (10 ** 6, (), (U, ((((10 ** 6 + 1, 1), (0, 1), (1, 1)), (U,)),))), (12, (("log", long),), (last_unknown((LOG,)), ())), (10 ** 6, (("exp", rational(0, 10 ** 6 + 1)),), (last_unknown((LOG,)), ())),
            (12, (("exp", rational(0, 10 ** 6 + 1)),), (lifted_thing((LOG,), long), ())),
        ]
        for limit, tower, answer in cases:
            self.limited(limit, answer_term, tower, answer)
            self.limited(limit, write_answer, tower, answer)
        self.assertIsNone(answer_term((), (good, ((twelve, (good,) * 12),))))
        self.assertEqual(write_answer((), (rational(10 ** 6), (single(-10 ** 6, 1, U),))), "1000000-1000000*log(x)")
        self.assertEqual(write_answer((), (good, ((twelve, (ONE,)),))), "x^12+sum(c*log(1) for c^12+2=0)")

    def test_what_is_no_term(self):
        """60 if what is told is too high, or built of too many; a text has no such limit."""
        line = tuple((at + 1, at + 2) for at in range(13))
        thing = (line, line[:12] + ((1, 1),))
        for at in range(3):
            ones = (number_of(field_of(THREE[:at]), 1, 1),)
            thing = (ones * 12 + (thing,), ones)
        one = lifted_thing(THREE, rational(1, 1))
        for many, fits in ((5, True), (6, False), (16, False)):
            answer = (thing, ((((-1, 1), (1, 1)), (one,)),) * many)
            if fits:
                self.assertEqual(height_of(answer_term(THREE, answer)), 60)
                self.assertEqual(write_term(answer_term(THREE, answer)), write_answer(THREE, answer))
            else:
                self.limited(60, answer_term, THREE, answer)
            self.assertEqual(write_answer(THREE, answer), write_answer(THREE, (thing, ())) + "+log(x+1)" * many)
        # A root line of more roots is told ahead of this.
        self.assertIsNone(answer_term(THREE, (thing, ((((-1, 1), (1, 1)), (one,)),) * 15 + ((FQ, (one,)),))))
        # Too many terms: the texts are as long as they must be.
        function = (line, line[:12] + ((1, 1),))
        tower = (("log", function), ("exp", function))
        inner = ((U,) * 13, (ONE,))
        many = ((inner,) * 13, (((ONE,), (ONE,)),))
        self.assertIs(is_number(field_of(tower), many), True)
        self.limited(60, answer_term, tower, (many, ()))
        self.limited(60, answer_term, tower, (lifted_thing(tower, ONE), ((((-1, 1), (1, 1)), (many,)),)))
        text = write_answer(tower, (many, ()))
        self.assertEqual(text.count("log("), 12 * 13)
        self.assertEqual(text.count("exp("), 12)

    def test_wrong_arguments(self):
        self.refuses_all(InvalidTower, is_answer, (), NO_TOWERS, (None,))
        for call in (answer_term, write_answer):
            self.refuses_all(InvalidTower, call, (), NO_TOWERS, (None,))
            self.refuses_all(InvalidAnswer, call, ((),), any_values() + [(U, (single(1, 1, NOUGHT),)), (U, (single(1, 1, U),) * 17), (rational(GREATEST + 1), ()), (last_unknown((LOG,)), ())])
            self.refused(InvalidAnswer, call, (("log", (((0, 1),) * 13 + ((1, 1),), ((1, 1),))),), None)
            self.refused(InvalidAnswer, call, (), (((0, 1),) * 13 + ((1, 1),), ()))

    def test_each_name_is_defined_here(self):
        for name in "is_answer answer_term write_answer".split():
            self.assertEqual(getattr(answertexts, name).__module__, "towerback.answertexts")


if __name__ == "__main__":
    unittest.main()
