"""Points 44 and 109: terms of things."""

import unittest

from tests.support import GREATEST, Asks, any_values, chances, random_number
from tests.term_support import W0, W1, W2, X1, all_parts
from tests.test_rootsums import NO_TOWERS
from tests.test_termled import EXP, LOG, THREE, unknown
from tests.test_towers import TOWERS, U, V, W, rational
from towerback import termback
from towerback.errors import InvalidNumber, InvalidTower, TooMany
from towerback.fieldways import is_number, negative_of, number_of, number_plus, number_times
from towerback.termback import term_of
from towerback.termled import thing_in
from towerback.terms import height_of, is_term
from towerback.termwriting import write_term
from towerback.towers import field_of, last_unknown, lifted_thing

LOG_X, EXP_X = ("log", X1), ("exp", X1)


def is_below(number):
    """Tell whether a number of a tower's field, or a fraction, begins below 0."""
    while not isinstance(number[0], int):
        if number[0] == ():
            return False
        number = number[0][-1]
    return number[0] < 0


def plain_term(unknowns, number):
    """Return the term of a number, by the words of the document."""
    field = 0
    for _ in unknowns:
        field = ("quot", field)
    if is_below(number):
        return ("negative", plain_term(unknowns, negative_of(field, number)))
    if not unknowns:
        return ("whole", number[0]) if number[1] == 1 else ("over", ("whole", number[0]), ("whole", number[1]))
    over, under = (plain_line(unknowns, line) for line in number)
    return over if len(number[1]) == 1 else ("over", over, under)


def plain_line(unknowns, line):
    """Return the term of a line, by the words of the document."""
    field = 0
    for _ in unknowns[1:]:
        field = ("quot", field)
    found = None
    for power in range(len(line) - 1, -1, -1):
        number = line[power]
        if number == number_of(field, 0, 1):
            continue
        size = negative_of(field, number) if is_below(number) else number
        name = unknowns[-1] if power == 1 else ("power", unknowns[-1], power)
        part = plain_term(unknowns[:-1], size)
        if power:
            part = name if size == number_of(field, 1, 1) else ("times", part, name)
        if found is None:
            found = part
        else:
            found = ("minus" if is_below(number) else "plus", found, part)
    return W0 if found is None else found


def told_unknowns(tower):
    """Return the terms of the unknowns of a tower."""
    return [X1] + [(sort, plain_term([X1], function)) for sort, function in tower]


def greatest(value):
    """Return the greatest size of an integer in tuples of tuples."""
    return max(map(greatest, value), default=0) if isinstance(value, tuple) else abs(value)


class TermBack(Asks, unittest.TestCase):
    def limited(self, limit, *arguments):
        """Ask that a call raises TooMany with a limit."""
        with self.assertRaises(TooMany) as caught:
            term_of(*arguments)
        self.assertEqual(caught.exception.limit, limit, arguments)

    def test_terms(self):
        for seed, tower in enumerate(TOWERS):
            chance = chances(seed)
            for _ in range(30 if len(tower) < 2 else 6):
                thing = random_number(chance, field_of(tower), 2 if len(tower) < 2 else 1)
                if is_number(field_of(tower), thing) and greatest(thing) <= 10 ** 6:
                    term = term_of(tower, thing)
                    self.assertEqual(term, plain_term(told_unknowns(tower), thing))
                    self.assertIs(is_term(term), True)

    def test_there_and_back(self):
        """The thing of the term of a thing is the thing, where no step stands twice."""
        done = 0
        for seed, tower in enumerate(TOWERS + [(LOG, EXP), THREE]):
            if len(set(tower)) < len(tower):
                continue
            chance = chances(seed + 44)
            for _ in range(20 if len(tower) < 2 else 6):
                thing = random_number(chance, field_of(tower), 2 if len(tower) < 2 else 1)
                try:
                    found = thing_in(tower, term_of(tower, thing))
                except TooMany:
                    continue
                done += 1
                self.assertEqual(found, thing)
        self.assertGreater(done, 80)

    def test_known_terms(self):
        half = (((1, 2),), ((1, 1),))
        cases = [
            (rational(), "0"), (rational(1), "1"), (rational(-3), "-3"), (half, "1/2"), ((((-1, 2),), ((1, 1),)), "-1/2"), (U, "x"), (rational(0, -1), "-x"), (rational(0, 0, 1), "x^2"),
            (rational(1, 2), "2*x+1"), (rational(-1, 2), "2*x-1"), (rational(1, -2), "-(2*x-1)"), (rational(2, -3), "-(3*x-2)"), (W, "1/x"), ((((-1, 1),), ((0, 1), (1, 1))), "-1/x"),
            (V, "(x^2+1)/(x-1)"), ((((0, 1), (1, 2)), ((1, 1),)), "1/2*x"), ((((0, 1), (-1, 2), (1, 1)), ((1, 3), (1, 1))), "(x^2-1/2*x)/(x+1/3)"), (rational(0, 0, 0, 5), "5*x^3"),
            ((((-1, 2), (0, 1), (1, 1)), ((1, 1), (1, 1))), "(x^2-1/2)/(x+1)"), (rational(0, 1, 0, -1), "-(x^3-x)"),
        ]
        for thing, text in cases:
            self.assertEqual(write_term(term_of((), thing)), text)
        for tower, thing, text in (
            ((LOG,), last_unknown((LOG,)), "log(x)"), ((EXP,), ((rational(0, -1), rational(-1, 1)), (rational(1),)), "(x-1)*exp(x)-x"),
            ((LOG,), ((U, rational(), rational(-1, -1)), (rational(1),)), "-((x+1)*log(x)^2-x)"), ((LOG,), ((rational(1),), (rational(0, -1), rational(1))), "1/(log(x)-x)"),
            ((("exp", rational(1, -1)),), last_unknown((EXP,)), "exp(-(x-1))"), ((("log", (((0, 1), (-1, 2)), ((1, 1),))),), last_unknown((LOG,)), "log(-1/2*x)"),
            ((LOG,), ((rational(), rational(), W), (rational(1),)), "1/x*log(x)^2"), ((LOG,), ((rational(), (((-1, 2),), ((1, 1),))), (rational(1),)), "-1/2*log(x)"),
            ((LOG, EXP), lifted_thing((LOG, EXP), rational(-1)), "-1"), ((LOG, EXP), unknown((LOG, EXP), 0), "log(x)"),
            ((LOG, EXP), number_times(field_of((LOG, EXP)), unknown((LOG, EXP), 0), unknown((LOG, EXP), 1)), "log(x)*exp(x)"),
            ((LOG, EXP), number_plus(field_of((LOG, EXP)), unknown((LOG, EXP), 1), negative_of(field_of((LOG, EXP)), unknown((LOG, EXP), 0))), "exp(x)-log(x)"),
        ):
            self.assertEqual(write_term(term_of(tower, thing)), text)
        self.assertEqual(term_of((), rational(2, -3)), ("negative", ("minus", ("times", ("whole", 3), X1), W2)))
        self.assertEqual(term_of((), rational(-1)), ("negative", W1))

    def test_limits(self):
        """12 for lines of more than 13 numbers, then 10 ** 6 for integers, then 60 for what is no term."""
        good = (((0, 1),) * 12 + ((1, 1),), ((1, 1),))
        long = (((0, 1),) * 13 + ((1, 1),), ((1, 1),))
        great, small = rational(10 ** 6 + 1), rational(10 ** 6, -10 ** 6)
        self.assertEqual(term_of((), good), ("power", X1, 12))
        self.assertEqual(write_term(term_of((), small)), "-(1000000*x-1000000)")
        self.limited(12, (), long)
        self.limited(12, (), (((1, 1),), long[0]))
        self.limited(12, (), (long[0][:-1] + ((10 ** 6 + 1, 1),), ((1, 1),)))
        self.limited(10 ** 6, (), great)
        self.limited(10 ** 6, (), rational(-10 ** 6 - 1))
        self.limited(10 ** 6, (), (((1, 10 ** 6 + 1),), ((1, 1),)))
        one, nought = rational(1), rational()
        for kind in ("log", "exp"):
            tower = ((kind, U),)
            self.assertEqual(term_of(tower, ((nought,) * 12 + (one,), (one,))), ("power", (kind, X1), 12))
            self.limited(12, tower, ((nought,) * 13 + (one,), (one,)))
            self.limited(12, tower, ((long,), (one,)))
            self.limited(10 ** 6, tower, ((great,), (one,)))
            # The steps count, though nothing of them stands in the thing.
            self.limited(12, ((kind, long),), lifted_thing(tower, one))
            self.limited(10 ** 6, ((kind, rational(0, 10 ** 6 + 1)),), lifted_thing(tower, one))
            self.limited(12, ((kind, rational(0, 10 ** 6 + 1)),), ((nought,) * 13 + (one,), (one,)))
            self.limited(12, ((kind, long),), lifted_thing(tower, great))
            self.assertEqual(term_of(((kind, good),), last_unknown(tower)), (kind, ("power", X1, 12)))

    def test_what_is_no_term(self):
        """A long unknown that stands often makes too many terms; the highest ones are still no higher than 60."""
        line = tuple((at + 1, at + 2) for at in range(13))
        function, one = (line, line[:12] + ((1, 1),)), rational(1)
        tower = (("log", function), ("exp", function))
        for many, fits in ((5, True), (13, False)):
            inner = ((U,) * many, (one,))
            thing = ((inner,) * many, (((one,), (one,)),))
            self.assertIs(is_number(field_of(tower), thing), True)
            many = len(all_parts(plain_term(told_unknowns(tower), thing)))
            self.assertIs(many <= 20000, fits)
            if fits:
                self.assertEqual(len(all_parts(term_of(tower, thing))), many)
            else:
                self.limited(60, tower, thing)
        thing = function
        for at in range(3):
            ones = (number_of(field_of(THREE[:at]), 1, 1),)
            thing = (ones * 12 + (thing,), ones)
        high = term_of(THREE, thing)
        self.assertEqual(high, plain_term(told_unknowns(THREE), thing))
        self.assertEqual(height_of(high), 16 + 3 * 13)

    def test_wrong_arguments(self):
        self.refuses_all(InvalidTower, term_of, (), NO_TOWERS, (None,))
        for tower in TOWERS:
            values = [value for value in any_values() if not is_number(field_of(tower), value)] + [(U[0], U[0]), rational(GREATEST + 1)]
            self.refuses_all(InvalidNumber, term_of, (tower,), values)
        long = ("log", (((0, 1),) * 13 + ((1, 1),), ((1, 1),)))
        self.refused(InvalidNumber, term_of, (long,), None)

    def test_each_name_is_defined_here(self):
        self.assertEqual(termback.term_of.__module__, "towerback.termback")


if __name__ == "__main__":
    unittest.main()
