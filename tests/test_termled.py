"""Points 43 and 108: what terms mean in towers."""

import unittest
from fractions import Fraction

from tests.support import GREATEST, Asks, chances
from tests.term_support import NOT_TERMS, W0, W1, W2, X1, all_parts, chain, line_value, of_many, random_term, value_of
from tests.test_rootsums import NO_TOWERS
from tests.test_towers import TOWERS, U, W, rational
from towerback import termled
from towerback.errors import InvalidTower, PaperError, TooMany
from towerback.fieldways import inverse_of, is_number, negative_of, number_minus, number_of, number_plus, number_power, number_times
from towerback.termerrors import ConstantStep, InvalidTerm, TooDeep, UnknownStep, ZeroLog, ZeroUnder
from towerback.termled import thing_in, tower_of
from towerback.termreading import read_term
from towerback.termslopes import derived_term
from towerback.towers import derivative_of, field_of, is_tower, last_unknown, lifted_thing

NOUGHT, ONE = rational(), rational(1)
LOG, EXP = ("log", U), ("exp", U)
THREE = (LOG, EXP, ("log", rational(1, 1)))
LOG_X, EXP_X = ("log", X1), ("exp", X1)


def unknown(tower, at):
    """Return the unknown of the step with an index as a thing of a tower."""
    thing = last_unknown(tower[:at + 1])
    for index in range(at + 1, len(tower)):
        thing = ((thing,), (number_of(field_of(tower[:index]), 1, 1),))
    return thing


def plain_thing(tower, term):
    """Return the thing that a term means, without any errors, each log and exp standing in the tower."""
    field, sort = field_of(tower), term[0]
    if sort == "whole":
        return number_of(field, term[1], 1)
    if sort == "x":
        return lifted_thing(tower, U)
    if sort in ("log", "exp"):
        return unknown(tower, tower.index((sort, plain_thing((), term[1]))))
    parts = [plain_thing(tower, part) for part in term[1:] if isinstance(part, tuple)]
    if sort == "negative":
        return negative_of(field, parts[0])
    if sort == "power":
        return number_power(field, parts[0], term[2])
    if sort == "plus":
        return number_plus(field, parts[0], parts[1])
    if sort == "minus":
        return number_minus(field, parts[0], parts[1])
    return number_times(field, parts[0], parts[1] if sort == "times" else inverse_of(field, parts[1]))


def steps_term(chance, tower, height):
    """Return some term in which the steps of a tower stand."""
    if height == 1 or chance.randrange(5) == 0:
        return chance.choice([X1, W2, W1] + [step for step in tower])
    sort = chance.choice(["negative", "plus", "minus", "times", "over", "power"])
    first = steps_term(chance, tower, height - 1)
    if sort == "negative":
        return sort, first
    if sort == "power":
        return sort, first, chance.randint(0, 3)
    return sort, first, steps_term(chance, tower, height - 1)


def sum_of(many):
    """Return a low sum of x, so many times."""
    return X1 if many == 1 else ("plus", sum_of(many // 2), sum_of(many - many // 2))


class TermLed(Asks, unittest.TestCase):
    def at_part(self, error, path, function, *arguments):
        """Ask that a call raises an error with the path of a part."""
        with self.assertRaises(PaperError, msg=arguments) as caught:
            function(*arguments)
        self.assertIs(type(caught.exception), error, arguments)
        self.assertEqual(caught.exception.path, path, arguments)

    def limited(self, limit, function, *arguments):
        """Ask that a call raises TooMany with a limit."""
        with self.assertRaises(TooMany) as caught:
            function(*arguments)
        self.assertEqual(caught.exception.limit, limit, arguments)

    def test_rational_functions(self):
        """By values: a term and its thing have the same ones."""
        chance, zeros = chances(43), 0
        for _ in range(300):
            term = random_term(chance, 5, False)
            try:
                over, under = thing_in((), term)
            except ZeroUnder as error:
                zeros += 1
                part = dict(all_parts(term))[error.path]
                self.assertEqual((part[0], thing_in((), part[2])), ("over", NOUGHT))
                continue
            except TooMany:
                continue
            for number in (Fraction(7, 3), Fraction(-11, 2)):
                value = value_of(term, number)
                if value is not None:
                    self.assertEqual(line_value(over, number), value * line_value(under, number))
            self.assertEqual(tower_of(term), ())
        self.assertGreater(zeros, 5)

    def test_things(self):
        for seed, tower in enumerate([(LOG,), (EXP,), (LOG, EXP), THREE, (EXP, LOG)]):
            names = [(sort, X1 if function == U else ("plus", X1, W1)) for sort, function in tower]
            chance = chances(seed)
            for _ in range(25):
                term = steps_term(chance, names, 4)
                try:
                    told = thing_in(tower, term)
                except (ZeroUnder, TooMany):
                    continue
                if is_number(field_of(tower), told):
                    self.assertEqual(told, plain_thing(tower, term), term)

    def test_derivatives(self):
        """The thing of the derivative of a term is the derivative of the term's thing."""
        done = 0
        for seed, tower in enumerate([(), (LOG,), (EXP,), (LOG, EXP), THREE]):
            names = [(sort, X1 if function == U else ("plus", X1, W1)) for sort, function in tower]
            chance = chances(seed + 7)
            for _ in range(25):
                term = steps_term(chance, names, 4)
                try:
                    thing, slope = thing_in(tower, term), thing_in(tower, derived_term(term))
                except (ZeroUnder, TooMany):
                    continue
                if is_number(field_of(tower), thing):
                    done += 1
                    self.assertEqual(slope, derivative_of(tower, thing), term)
        self.assertGreater(done, 70)
        # The log of 1 and the exp of 0, too.
        for text in ("log(x-x+1)", "exp(x-x)", "exp(0)*x", "log(1)+x", "log(x)*exp(0)"):
            term = read_term(text)
            self.assertEqual(thing_in((LOG,), derived_term(term)), derivative_of((LOG,), thing_in((LOG,), term)))

    def test_towers(self):
        cases = {
            "x": (), "log(x)": (LOG,), "exp(x)": (EXP,), "log(x)+exp(x-x)": (LOG,), "exp(x)*log(x)": (EXP, LOG), "log(x)+log(x)": (LOG,), "log(x)+log(2*x/2)": (LOG,),
            "log(x)^2*log(x+1)/exp(x)": (LOG, ("log", rational(1, 1)), EXP), "log(1)": (), "exp(0)": (), "log(x/x)": (), "exp(x)+exp(2*x)": (EXP, ("exp", rational(0, 2))),
            "log(1/x)": (("log", W),), "log(x)-log(-x)": (LOG, ("log", rational(0, -1))), "exp(x)^0": (EXP,), "0*log(x)": (LOG,), "1/(log(x)-log(x))": (LOG,), "1/(x-x)": (),
            "-(-log(x))/exp(x)+log(x)": (LOG, EXP),
        }
        for text, tower in cases.items():
            self.assertEqual(tower_of(read_term(text)), tower, text)
            self.assertIs(is_tower(tower), True)

    def test_meanings(self):
        self.assertEqual(thing_in((), read_term("(x+1)/x^2")), (((1, 1), (1, 1)), ((0, 1), (0, 1), (1, 1))))
        self.assertEqual(thing_in((), read_term("log(1)")), NOUGHT)
        self.assertEqual(thing_in((), read_term("exp(x-x)")), ONE)
        self.assertEqual(thing_in((), read_term("log(x/x)+exp(0)")), ONE)
        self.assertEqual(thing_in((), ("power", W0, 0)), ONE)
        self.assertEqual(thing_in((), ("power", ("minus", X1, X1), 0)), ONE)
        self.assertEqual(thing_in((), ("power", W0, 12)), NOUGHT)
        self.assertEqual(thing_in((), read_term("1-2-3")), rational(-4))
        for tower in TOWERS[1:]:
            self.assertEqual(thing_in(tower, X1), lifted_thing(tower, U))
            self.assertEqual(thing_in(tower, ("whole", 10 ** 6)), number_of(field_of(tower), 10 ** 6, 1))
        # Each step, wherever it stands in the tower, and the first one of those that are the same.
        for at, text in enumerate(("log(x)", "exp(x)", "log(1+x)")):
            self.assertEqual(thing_in(THREE, read_term(text)), unknown(THREE, at))
        twice = (LOG, LOG, EXP)
        self.assertEqual(thing_in(twice, LOG_X), unknown(twice, 0))
        self.assertNotEqual(unknown(twice, 0), unknown(twice, 1))
        self.assertEqual(thing_in(twice, EXP_X), unknown(twice, 2))

    def test_errors(self):
        """Each error with the path of its part."""
        deep = ("log", ("plus", X1, ("exp", X1)))
        for call in (tower_of, lambda term: thing_in(THREE, term)):
            self.at_part(TooDeep, (0, 1), call, deep)
            self.at_part(TooDeep, (1, 0, 1), call, ("plus", X1, deep))
            self.at_part(TooDeep, (0,), call, ("exp", ("log", ("over", W1, W0))))
            self.at_part(TooDeep, (0,), call, ("log", ("log", W0)))
            self.at_part(ZeroUnder, (0,), call, ("log", ("over", W1, W0)))
            self.at_part(ZeroUnder, (1, 0, 0), call, ("plus", X1, ("exp", ("times", ("over", X1, ("minus", X1, X1)), W2))))
            self.at_part(ZeroUnder, (0, 1), call, ("log", ("over", W1, ("over", W1, ("minus", W1, W1)))))
            self.at_part(ZeroLog, (), call, ("log", W0))
            self.at_part(ZeroLog, (1,), call, ("times", X1, ("log", ("minus", X1, X1))))
            self.at_part(ConstantStep, (), call, ("log", W2))
            self.at_part(ConstantStep, (), call, ("exp", W1))
            self.at_part(ConstantStep, (0,), call, ("negative", ("exp", ("over", X1, X1))))
            self.at_part(ConstantStep, (), call, ("log", ("negative", W1)))
            self.at_part(ConstantStep, (), call, ("log", ("over", W1, W2)))
        self.at_part(UnknownStep, (), thing_in, (), LOG_X)
        self.at_part(UnknownStep, (0,), thing_in, (LOG,), ("power", EXP_X, 0))
        self.at_part(UnknownStep, (1, 0), thing_in, (LOG, EXP), ("plus", LOG_X, ("negative", ("log", ("times", W2, X1)))))
        self.at_part(ZeroUnder, (), thing_in, (), ("over", X1, ("minus", X1, X1)))
        self.at_part(ZeroUnder, (0, 1), thing_in, (LOG,), ("plus", ("minus", X1, ("over", W1, ("minus", LOG_X, LOG_X))), W1))
        self.assertEqual(tower_of(("over", X1, ("minus", LOG_X, LOG_X))), (LOG,))

    def test_which_error_comes_first(self):
        """They come as the term is done: from left to right, a part ahead of the whole."""
        zero, constant, none = ("over", W1, W0), ("log", W2), ("log", W0)
        self.at_part(ZeroUnder, (0,), thing_in, (), ("plus", zero, constant))
        self.at_part(ConstantStep, (0,), thing_in, (), ("plus", constant, zero))
        self.at_part(ConstantStep, (0,), thing_in, (), ("over", constant, W0))
        self.at_part(ZeroLog, (0,), thing_in, (), ("times", none, LOG_X))
        self.at_part(UnknownStep, (0,), thing_in, (), ("times", LOG_X, none))
        self.at_part(ZeroUnder, (0, 0), thing_in, (), ("log", ("minus", zero, ("log", X1))))
        self.at_part(TooDeep, (0, 0), thing_in, (), ("log", ("minus", ("log", X1), zero)))
        self.at_part(ZeroUnder, (1,), thing_in, (), ("over", W1, zero))
        # A tower is asked of what stands in logs and exps alone.
        self.at_part(ConstantStep, (1,), tower_of, ("plus", zero, constant))
        self.at_part(ZeroLog, (0, 1), tower_of, ("plus", ("over", W1, none), constant))
        self.at_part(ZeroUnder, (1, 0), tower_of, ("plus", zero, ("exp", zero)))

    def test_sizes(self):
        """60 for integers of sizes, of all parts, then 1000 for figures."""
        good = ("times", ("power", ("power", X1, 12), 4), ("power", X1, 12))
        calls = (tower_of, lambda term: thing_in((), term))
        for call in calls:
            call(good)
            call(("over", W1, good))
            self.limited(60, call, ("times", good, X1))
            self.limited(60, call, ("over", W1, ("times", good, X1)))
            self.limited(60, call, ("over", ("times", good, X1), ("power", X1, 12)))
            # Parts count wherever they stand: in a log, and where the whole is small again.
            self.limited(60, call, ("power", ("times", good, X1), 0))
            self.limited(60, call, ("log", ("times", good, X1)))
            self.limited(60, call, ("log", ("log", ("times", good, X1))))
            self.limited(60, call, ("over", ("log", W0), ("times", good, X1)))
            # 1000 figures and one more; the size comes ahead.
            self.limited(60, call, ("power", ("power", ("times", ("whole", 10 ** 6), X1), 10), 12))
            thousand = ("times", ("power", ("power", ("whole", 99999), 12), 12), ("power", ("power", ("whole", 9999), 10), 7))
            self.assertEqual(5 * 144 + 4 * 70, 1000)
            call(thousand)
            self.limited(1000, call, ("negative", ("plus", thousand, W1)))
            self.limited(1000, call, ("power", ("times", thousand, W1), 0))
            self.limited(1000, call, ("times", thousand, X1))
            self.limited(1000, call, ("times", thousand, ("log", W0)))
            self.limited(1000, call, ("exp", ("times", thousand, W0)))
            self.limited(60, call, ("times", ("times", thousand, W1), ("times", good, X1)))
            self.limited(60, call, ("log", ("plus", ("times", thousand, W1), ("times", good, X1))))
        self.limited(1000, calls[0], ("plus", ("log", W0), ("times", thousand, W0)))

    def test_great_steps(self):
        """10 ** 100 for integers in steps, either way, then 3 steps."""
        great = ("power", ("power", ("whole", 10), 10), 10)
        step = tower_of(("log", ("plus", X1, great)))
        self.assertEqual(step, (("log", rational(GREATEST, 1)),))
        self.assertEqual(thing_in(step, ("log", ("plus", X1, great))), last_unknown(step))
        self.assertEqual(tower_of(("exp", ("minus", X1, great))), (("exp", rational(-GREATEST, 1)),))
        for sign in ("plus", "minus"):
            term = ("exp", (sign, X1, ("plus", great, W1)))
            self.limited(GREATEST, tower_of, term)
            self.at_part(UnknownStep, (), thing_in, (), term)
            four = ("plus", ("plus", LOG_X, EXP_X), ("plus", ("log", ("plus", X1, W1)), term))
            self.limited(GREATEST, tower_of, four)
            # The errors of parts come ahead of both.
            self.at_part(ZeroLog, (1,), tower_of, ("plus", four, ("log", W0)))
        three = ("plus", ("plus", LOG_X, EXP_X), ("log", ("plus", X1, W1)))
        self.assertEqual(tower_of(three), THREE)
        self.assertEqual(tower_of(("times", three, LOG_X)), THREE)
        self.limited(3, tower_of, ("times", three, ("log", ("plus", X1, W2))))
        self.at_part(TooDeep, (1, 0), tower_of, ("plus", ("times", three, ("log", ("plus", X1, W2))), ("log", LOG_X)))

    def test_high_terms(self):
        self.assertEqual(thing_in((), chain(59)), rational(0, -1))
        self.assertEqual(tower_of(chain(58, LOG_X)), (LOG,))
        self.assertEqual(thing_in((), sum_of(1000)), rational(0, 1000))
        self.limited(1000, thing_in, (), sum_of(1001))
        self.limited(1000, tower_of, sum_of(1001))

    def test_wrong_arguments(self):
        not_terms = NOT_TERMS + [chain(60), of_many(20001), "x"]
        self.refuses_all(InvalidTerm, tower_of, (), not_terms)
        self.refuses_all(InvalidTerm, thing_in, ((),), not_terms)
        self.refuses_all(InvalidTerm, thing_in, (THREE,), not_terms)
        self.refuses_all(InvalidTower, thing_in, (), NO_TOWERS, (None,))
        # The tower is looked at ahead of all that is wrong with the term.
        self.refuses_all(InvalidTower, thing_in, (), NO_TOWERS, (("log", W0),))
        self.refuses_all(InvalidTower, thing_in, (), NO_TOWERS, (("power", ("power", X1, 12), 12),))

    def test_each_name_is_defined_here(self):
        for name in "tower_of thing_in".split():
            self.assertEqual(getattr(termled, name).__module__, "towerback.termled")


if __name__ == "__main__":
    unittest.main()
