"""Points 48 and 115: the judge of answers."""

import unittest

from tests.risch_by_trial import lifted
from tests.support import GREATEST, X, Asks, any_values, changed
from tests.test_integrated import JT
from tests.test_logarithmic import lifted_sums
from tests.test_rootsums import NO_TOWERS
from tests.test_severals import plain_system
from tests.test_spreads import product_of
from tests.test_stepparts import powers
from tests.test_termled import EXP, LOG, THREE, unknown
from tests.test_towers import TOWERS, U, W, rational
from towerback import judge
from towerback.errors import InvalidNumber, InvalidTower
from towerback.fieldways import inverse_of, is_number, number_plus, number_times
from towerback.hermite import hermite_paper
from towerback.integrated import integrated, slope_and_back
from towerback.judge import takes
from towerback.onestep import one_step_paper, plain_one_step
from towerback.rawsystems import refusal_of
from towerback.severals import told_system
from towerback.systems import kernel_of
from towerback.towers import derivative_of, field_of, last_unknown, lifted_thing

ONE, NOUGHT = rational(1), rational()
SHIFTED = (((1, 1),), ((1, 1), (1, 1)))
GREAT = rational(10 ** 119 + 1)
T = last_unknown((LOG,))
EI = ((NOUGHT, W), (ONE,))


def questions():
    """Return towers and things with answers of all kinds."""
    field = field_of(JT)
    found = [
        ((), U), ((), W), ((), NOUGHT), ((), (((1, 1),), ((1, 1), (0, 1), (1, 1)))), ((LOG,), T), ((LOG,), ((ONE,), (NOUGHT, ONE))), ((LOG,), ((NOUGHT, SHIFTED), (ONE,))), ((EXP,), EI),
        ((EXP,), ((ONE,), (ONE, ONE))), (JT, last_unknown(JT)), (JT, product_of(JT, (1, 1), ONE)), (JT, inverse_of(field, unknown(JT, 0))), (JT, lifted_thing(JT, W)), (THREE, product_of(THREE, (0, 1, 1), ONE)),
        (THREE, inverse_of(field_of(THREE), unknown(THREE, 2))),
    ]
    return [(tower, thing, integrated(tower, thing)) for tower, thing in found]


def great_row(tower, thing):
    """Return a row with great integers that shows that a told system has no solution, or None."""
    _, table, right = told_system(tower, thing)
    rows = tuple(row + (number,) for row, number in zip(table, right))
    turned = tuple(zip(*rows))
    row = integrated(tower, thing)[1]
    for free in kernel_of(0, turned):
        row = tuple(number_plus(0, item, number_times(0, (GREATEST, 7), part)) for item, part in zip(row, free))
    return row


class Judge(Asks, unittest.TestCase):
    def test_answers(self):
        words = set()
        for tower, thing, answer in questions():
            words.add(answer[0])
            self.assertIs(takes(tower, thing, answer), True, (tower, thing, answer))
            self.judges(takes, (tower, thing), answer, False)
            for at, part in enumerate(answer):
                for value in any_values():
                    if value != part:
                        self.assertIs(takes(tower, thing, answer[:at] + (value,) + answer[at + 1:]), False, (tower, thing, answer, at, value))
        self.assertEqual(words, {"yes", "no", "open"})

    def test_spoilt_answers(self):
        for tower, thing, answer in questions():
            for value in changed(answer):
                if takes(tower, thing, value):
                    self.assertEqual(value[0], answer[0])
                    if value[0] == "yes":
                        self.assertNotEqual(value, answer)
                        self.assertTrue(is_number(field_of(tower), value[1]))
                        self.assertEqual(derivative_of(tower, value[1]), derivative_of(tower, answer[1]))
                    elif value[0] == "open":
                        _, table, right = plain_system(tower, thing)
                        self.assertEqual(sum_of_products(value[1], right), (1, 1))

    def test_other_answers(self):
        """Constants, logarithms told as unknowns or sums, sums of many kinds."""
        log = ((((-1, 1), (1, 1)), (U,)),)
        self.assertIs(takes((), W, ("yes", GREAT, log)), True)
        self.assertIs(takes((), W, ("yes", U, log)), False)
        self.assertIs(takes((), W, ("yes", NOUGHT, ())), False)
        constant = ((((-10 ** 119, 3), (1, 1)), (GREAT,)),)
        self.assertIs(takes((), W, ("yes", NOUGHT, log + constant * 15)), True)
        self.assertIs(takes((), W, ("yes", NOUGHT, log + constant * 16)), False)
        halves = ((((-1, 16), (1, 1)), (U,)),) * 16
        self.assertIs(takes((), W, ("yes", NOUGHT, halves)), True)
        self.assertIs(takes((), W, ("yes", NOUGHT, halves[1:])), False)
        self.assertIs(takes((), W, ("yes", NOUGHT, ((((-1, 17), (1, 1)), (U,)),) * 17)), False)
        self.assertIs(takes((LOG,), lifted(W), ("yes", T, ())), True)
        self.assertIs(takes((LOG,), lifted(W), ("yes", lifted(NOUGHT), lifted_sums(log))), True)
        self.assertIs(takes((LOG,), lifted(W), ("yes", lifted(NOUGHT), log)), False)
        self.assertIs(takes(JT, lifted_thing(JT, W), ("yes", unknown(JT, 0), ())), True)
        # In a tower of several steps a "yes" needs no spread: a logarithm of a logarithm.
        field = field_of(JT)
        thing = number_times(field, lifted_thing(JT, W), inverse_of(field, unknown(JT, 0)))
        self.assertEqual(integrated(JT, thing), ("open", None))
        self.assertIs(takes(JT, thing, ("yes", lifted_thing(JT, NOUGHT), ((((-1, 1), (1, 1)), (unknown(JT, 0),)),))), True)
        own = inverse_of(field, number_plus(field, unknown(JT, 0), unknown(JT, 1)))
        slope, answer = slope_and_back(JT, own)
        self.assertEqual(answer, ("open", None))
        self.assertIs(takes(JT, slope, answer), True)
        self.assertIs(takes(JT, slope, ("yes", own, ())), True)
        self.assertIs(takes(JT, slope, ("yes", number_plus(field, own, unknown(JT, 1)), ())), False)

    def test_no(self):
        paper = one_step_paper(EXP, EI)
        self.assertIs(takes((EXP,), EI, ("no", paper)), True)
        self.assertIs(takes((EXP,), EI, paper), False)
        self.assertIs(takes((EXP,), EI, ("no", ("no",) + paper)), False)
        self.assertIs(takes((EXP,), last_unknown((EXP,)), ("no", ("yes", last_unknown((EXP,)), ()))), False)
        self.assertIs(takes((EXP,), last_unknown((EXP,)), ("no", paper)), False)
        self.assertIs(takes((LOG,), EI, ("no", paper)), False)
        # Only for one step.
        self.assertIs(takes((), W, ("no", paper)), False)
        twice = (EXP, EXP)
        self.assertIs(takes(twice, ((EI,), (lifted(ONE),)), ("no", paper)), False)

    def test_a_no_is_within_the_limits(self):
        """Beyond 4 and 6 no "no" is taken, though it be a paper; a "yes" is."""
        under = (ONE, NOUGHT, NOUGHT, NOUGHT, NOUGHT, ONE)
        for tower, thing in (((EXP,), ((U,), under)), ((EXP,), ((NOUGHT, number_plus(X, W, powers(7))), (ONE,))), ((("exp", powers(7)),), ((NOUGHT, W), (ONE,)))):
            paper = slope_paper(tower[0], thing)
            self.assertEqual(paper[0], "no")
            self.assertIs(takes(tower, thing, ("no", paper)), False)
        for tower, thing in (((EXP,), ((U,), under[:4] + (ONE,))), ((EXP,), ((NOUGHT, number_plus(X, W, powers(5))), (ONE,))), ((("exp", powers(6)),), ((NOUGHT, W), (ONE,)))):
            self.assertIs(takes(tower, thing, ("no", one_step_paper(tower[0], thing))), True)
        long = ((NOUGHT,) * 9 + (ONE,), (ONE,))
        slope = derivative_of((EXP,), long)
        self.assertIs(takes((EXP,), slope, ("yes", long, ())), True)
        self.assertIs(takes((("log", powers(9)),), lifted(ONE), ("yes", lifted(U), ())), True)

    def test_open(self):
        thing = product_of(JT, (1, 1), ONE)
        row = integrated(JT, thing)[1]
        self.assertIs(takes(JT, thing, ("open", row)), True)
        self.assertIs(takes(JT, thing, ("open", None)), False)
        self.assertIs(takes(JT, thing, ("open", row + ((0, 1),))), False)
        self.assertIs(takes(JT, thing, ("open", row[:-1])), False)
        self.assertIs(takes(JT, thing, ("open", list(row))), False)
        self.assertIs(takes(JT, thing, ("open", tuple(number_times(0, (2, 1), item) for item in row))), False)
        self.assertIs(takes(JT, thing, ("open", tuple((0, 1) for _ in row))), False)
        great = great_row(JT, thing)
        self.assertIs(takes(JT, thing, ("open", great)), True)
        # Of what has a solution no row is taken.
        thing = last_unknown(JT)
        _, table, right = told_system(JT, thing)
        for row in (((1, 1), (0, 1)), ((1, 1), (-1, 1)), ((0, 1), (1, 1)), ((1, 1),), ()):
            self.assertIs(takes(JT, thing, ("open", row)), False)
        self.assertEqual(len(table), 2)
        # Without rows there is a solution.
        self.assertIs(takes((EXP, EXP), lifted_thing((EXP, EXP), ONE), ("open", ())), False)
        # Only for two steps and three.
        self.assertIs(takes((), W, ("open", None)), False)
        self.assertIs(takes((LOG,), ((ONE,), (NOUGHT, ONE)), ("open", None)), False)
        self.assertIs(takes((EXP,), EI, ("open", ((1, 1),))), False)
        for tower in (JT, THREE):
            none = inverse_of(field_of(tower), unknown(tower, 0))
            self.assertIs(takes(tower, none, ("open", None)), True)
            for value in (False, (), 0, ((1, 1),)):
                self.assertIs(takes(tower, none, ("open", value)), False)

    def test_open_with_too_many(self):
        """With more than 40 columns or rows no row is taken, whatever it is."""
        for many, fits in ((37, True), (38, True), (39, False), (40, False)):
            tower = (LOG, ("exp", inverse_of(X, rational(*[0] * many, 1))))
            thing = product_of(tower, (0, 1), ONE)
            _, table, right = plain_system(tower, thing)
            row = unsolved_row(table, right)
            self.assertEqual(len(table), many + 2)
            self.assertIs(takes(tower, thing, ("open", row)), fits)
            self.assertIs(takes(tower, thing, ("open", None)), False)
        thing = product_of(JT, (0, 1), number_plus(X, W, rational(*[0] * 45, 1)))
        for value in (None, (), ((1, 1),) * 47):
            self.assertIs(takes(JT, thing, ("open", value)), False)

    def test_never_both(self):
        found = questions()
        for tower, thing, answer in found:
            for other in found:
                if other[2][0] != answer[0] and {other[2][0], answer[0]} == {"yes", "no"}:
                    self.assertIs(takes(tower, thing, other[2]), False)
                    if len(tower) == 1 and answer[0] == "yes" and other[0] == tower:
                        paper = ("no", hermite_paper(tower, thing), other[2][1][2])
                        self.assertIs(takes(tower, thing, ("no", paper)), False)

    def test_great_values(self):
        line = tuple((at - 500, 1) for at in range(900))
        self.assertIs(takes((), ONE, ("yes", (line, ((1, 1),)), ())), False)
        self.assertIs(takes((), ONE, ("yes", (((10 ** 119, 1), (1, 1)), ((1, 1),)), ())), True)
        self.assertIs(takes((), powers(59), ("yes", (((0, 1),) * 60 + ((1, 60),), ((1, 1),)), ())), True)
        self.assertIs(takes((), ONE, ("yes", U, (((line[:12] + ((1, 1),)), (U,)),))), False)
        self.assertIs(takes((), ONE, ("yes", number_plus(X, U, ONE), (((((2, 1),) + ((0, 1),) * 11 + ((1, 1),)), (GREAT,)),))), True)

    def test_wrong_arguments(self):
        self.refuses_all(InvalidTower, takes, (), NO_TOWERS, (None, None))
        for tower in TOWERS:
            values = [value for value in any_values() if not is_number(field_of(tower), value)] + [rational(GREATEST + 1), (U[0], U[0])]
            self.refuses_all(InvalidNumber, takes, (tower,), values, (None,))

    def test_each_name_is_defined_here(self):
        self.assertEqual(judge.takes.__module__, "towerback.judge")


def sum_of_products(row, other):
    """Return the sum of the products of two rows of fractions."""
    total = (0, 1)
    for one, number in zip(row, other):
        total = number_plus(0, total, number_times(0, one, number))
    return total


def unsolved_row(table, right):
    """Return a row that shows that a system of any size has no solution."""
    return refusal_of(0, table, right, len(table[0]))


def slope_paper(step, thing):
    """Return a paper of a thing of one step, however great it is."""
    return plain_one_step(step, thing)


if __name__ == "__main__":
    unittest.main()
