"""Points 28, 29 and 94: Hermite turns, triples and papers."""

import unittest

from tests.support import GREATEST, Asks, any_values, chances, changed
from tests.test_parted import ONE, NOUGHT, plain_special, random_thing
from tests.test_residues import EXP, LOG, TWICE, below, slope_in, some_line
from tests.test_rootsums import NO_TOWERS
from tests.test_towers import TOWERS, U, rational
from towerback import hermite as module
from towerback.errors import InvalidLine, InvalidNumber, InvalidTower, NotNormal
from towerback.fieldways import is_line, is_number, number_minus, number_of, number_plus, quotient_of
from towerback.hermite import hermite, hermite_paper, hermite_turn, is_hermite_paper
from towerback.lineways import common_line, divided_lines, does_divide, line_plus, line_times, monic_line, powered_line, slope_of
from towerback.parted import is_normal, parts_of
from towerback.towers import derivative_of, field_of

GX, GO = ((0, 1), (1, 1)), ((1, 1),)


def radical(tower, thing):
    """Return the under of a thing's third part by its common divisor with its derivative by the last unknown alone."""
    field, under = below(tower), parts_of(tower, thing)[2][1]
    return divided_lines(field, under, common_line(field, under, slope_of(field, under)))[0]


class Hermite(Asks, unittest.TestCase):
    def check_triple(self, tower, thing, triple):
        """Ask that a triple is the Hermite triple of a thing, by the words of the document."""
        field, inner = field_of(tower), below(tower)
        unit = (number_of(inner, 1, 1),)
        found, plain, rest = triple
        total = number_plus(field, number_plus(field, derivative_of(tower, found), plain), rest)
        self.assertEqual(total, thing, (tower, thing))
        self.assertLess(len(found[0]), len(found[1]))
        self.assertEqual(plain_special(tower, found[1]), unit)
        self.assertLess(len(plain[0]), len(plain[1]))
        self.assertIs(is_normal(tower, plain[1]), True)
        line, special, proper = parts_of(tower, thing)
        self.assertEqual(rest, number_plus(field, line, special))
        # All that is in the unders of both is in the under of the third part.
        power = powered_line(inner, proper[1], len(found[1]) + 1) if len(proper[1]) * len(found[1]) < 40 else None
        for under in (found[1], plain[1]):
            if power is not None and is_line(inner, power):
                self.assertTrue(does_divide(inner, under, power))

    def things(self, tower, chance):
        """Return things of a tower with powers in the under."""
        inner, found = below(tower), []
        for _ in range(12 if len(tower) < 2 else 4):
            thing = random_thing(chance, tower, 3 if len(tower) < 2 else 2)
            found.append(thing)
            part = ()
            while len(part) < 2:
                part = some_line(chance, inner, 2)
            power = powered_line(inner, part, chance.randint(2, 4 if len(tower) < 2 else 2))
            found.append(quotient_of(inner, thing[0], line_times(inner, monic_line(inner, power), thing[1])))
        return found

    def test_triples(self):
        for seed, tower in enumerate(TOWERS[:7]):
            for thing in self.things(tower, chances(seed)):
                if not is_normal(tower, radical(tower, thing)):
                    self.assertGreater(len(tower), 1)
                    self.refused(NotNormal, hermite, tower, thing)
                    self.refused(NotNormal, hermite_paper, tower, thing)
                    continue
                triple = hermite(tower, thing)
                self.check_triple(tower, thing, triple)
                paper = hermite_paper(tower, thing)
                self.assertEqual(paper[:3], triple)
                self.assertIs(is_hermite_paper(tower, thing, paper), True)

    def test_planted_triples(self):
        """Of the derivative of a proper thing, and of a plain one, both come back."""
        for seed, tower in enumerate(TOWERS[:6]):
            chance, field, inner = chances(seed), field_of(tower), below(tower)
            done = 0
            while done < 6:
                proper, plain = parts_of(tower, random_thing(chance, tower, 2))[2], parts_of(tower, random_thing(chance, tower, 2))[2]
                if not is_normal(tower, plain[1]) or not is_normal(tower, radical(tower, proper)):
                    continue
                if any(len(line) > 1 for line in (common_line(inner, proper[1], plain[1]),)):
                    continue
                done += 1
                thing = number_plus(field, derivative_of(tower, proper), plain)
                self.assertEqual(hermite(tower, thing), (proper, plain, number_of(field, 0, 1)))

    def test_known_triples(self):
        thing = (GO, ((1, 1), (0, 1), (2, 1), (0, 1), (1, 1)))
        wished = (((0, 1), (1, 2)), ((1, 1), (0, 1), (1, 1))), (((1, 2),), ((1, 1), (0, 1), (1, 1))), ((), GO)
        self.assertEqual(hermite((), thing), wished)
        for tower in TOWERS:
            nought = number_of(field_of(tower), 0, 1)
            self.assertEqual(hermite(tower, nought), (nought, nought, nought))
        power = ((0, 1),) * 12 + ((1, 1),)
        self.assertEqual(hermite((), (GO, power)), ((((-1, 11),), ((0, 1),) * 11 + ((1, 1),)), ((), GO), ((), GO)))
        # With an exponential a power of the unknown stays in the rest.
        deep = ((ONE,), (NOUGHT, NOUGHT, ONE))
        self.assertEqual(hermite(EXP, deep), (((), (ONE,)), ((), (ONE,)), deep))
        self.assertEqual(hermite(LOG, deep)[2], ((), (ONE,)))
        great = (((GREATEST, 1), (1, 3)), ((GREATEST - 3, 1), (2, 1), (1, GREATEST), (1, 1)))
        self.check_triple((), great, hermite((), great))

    def test_turns(self):
        for seed, tower in enumerate(TOWERS[:6]):
            chance, field, inner = chances(seed), field_of(tower), below(tower)
            unit = number_of(inner, 1, 1)
            done = 0
            while done < 6:
                first = some_line(chance, inner, 1) + (unit,) if chance.random() < 0.9 else (number_of(inner, 0, 1), unit)
                other = some_line(chance, inner, chance.randint(0, 2))
                other = monic_line(inner, other) if other else (unit,)
                plain = line_times(inner, first, other)
                if not is_normal(tower, plain) or len(first) < 2:
                    continue
                done += 1
                more = powered_line(inner, first, chance.randint(1, 3))
                over = some_line(chance, inner, chance.randint(0, 5))
                line, rest = hermite_turn(tower, over, plain, more)
                self.assertLess(len(line), len(first))
                left = divided_lines(inner, more, first)[0]
                total = number_plus(field, derivative_of(tower, quotient_of(inner, line, more)),
                                    quotient_of(inner, rest, line_times(inner, plain, left)))
                self.assertEqual(total, quotient_of(inner, over, line_times(inner, plain, more)))
        self.assertEqual(hermite_turn((), GO, GX, GX), (((-1, 1),), ()))
        self.assertEqual(hermite_turn((), (), GX, GX), ((), ()))

    def test_turns_with_lines_that_do_not_fit(self):
        square = ((0, 1), (0, 1), (1, 1))
        for plain, more in (((), GX), (GO, GX), (square, GX), (((0, 1), (2, 1)), GX), (((2, 1),), GX), (GX, ()), (GX, GO), (GX, ((0, 1), (2, 1))),
                            (((1, 1), (1, 1)), GX), (GX, ((0, 1), (-1, 1), (1, 1))), (GX, line_times(0, square, ((1, 1), (1, 1))))):
            self.refused(NotNormal, hermite_turn, (), GO, plain, more)
        self.assertEqual(len(hermite_turn((), GO, ((0, 1), (1, 1), (1, 1)), square)), 2)
        # The unknown of an exponential is not normal, and a line without a derivative has no k.
        self.refused(NotNormal, hermite_turn, EXP, (ONE,), (NOUGHT, ONE), (NOUGHT, ONE))
        self.refused(NotNormal, hermite_turn, EXP, (ONE,), (ONE, ONE), (NOUGHT, ONE))
        self.assertEqual(len(hermite_turn(LOG, (ONE,), (NOUGHT, ONE), (NOUGHT, ONE))), 2)
        unit = number_of(below(TWICE), 1, 1)
        alike = (((NOUGHT, rational(-1)), (ONE,)), unit)
        self.refused(NotNormal, hermite_turn, TWICE, (unit,), alike, alike)
        self.refused(NotNormal, hermite_turn, TWICE, (unit,), (number_of(below(TWICE), 0, 1), unit), alike)

    def test_things_without_a_triple(self):
        unit = number_of(below(TWICE), 1, 1)
        alike = (((NOUGHT, rational(-1)), (ONE,)), unit)
        for function in (hermite, hermite_paper):
            self.refused(NotNormal, function, TWICE, ((unit,), alike))
            self.refused(NotNormal, function, TWICE, ((unit,), line_times(below(TWICE), alike, alike)))
        self.assertIs(is_hermite_paper(TWICE, ((unit,), alike), None), False)

    def test_judge(self):
        chance = chances(28)
        for tower in TOWERS[:5]:
            field, inner = field_of(tower), below(tower)
            for thing in [number_of(field, 0, 1)] + self.things(tower, chance)[:3]:
                paper = hermite_paper(tower, thing)
                self.judges(is_hermite_paper, (tower, thing), paper, len(str(paper)) < 800)
                for value in changed(paper)[:60]:
                    self.assertIs(is_hermite_paper(tower, thing, value), False)
                # Other s and u, with multiples of the derivative and of the under.
                under = paper[1][1]
                slope = slope_in(tower, under)
                more = line_plus(inner, paper[3], slope), line_plus(inner, paper[4], tuple(negative(inner, part) for part in under))
                self.assertIs(is_hermite_paper(tower, thing, paper[:3] + more), True)

    def test_other_papers(self):
        """A constant may stand in the derived thing; a plain thing need not be the one of the triple."""
        thing = ((GO, GX))
        paper = hermite_paper((), thing)
        moved = (rational(GREATEST * 10 ** 15),) + paper[1:]
        self.assertIs(is_hermite_paper((), thing, moved), True)
        derived = rational(0, 1), paper[1], number_minus(("quot", 0), paper[2], ONE)
        self.assertIs(is_hermite_paper((), thing, derived + paper[3:]), True)
        self.assertIs(is_hermite_paper((), thing, paper[:2] + (ONE,) + paper[3:]), False)
        # What is not plain, or not special, is refused though the sum is right.
        square = (GO, ((0, 1), (0, 1), (1, 1)))
        for first in ((GO, GX), GX):
            self.assertIs(is_hermite_paper((), square, (((), GO), square, ((), GO), GO, ())), False)
            self.assertIs(is_hermite_paper((), square, (((), GO), ((), GO), square, GO, ())), False)
            self.assertEqual(len(first), 2)
        line = (rational(0, 1))
        self.assertIs(is_hermite_paper((), line, (((), GO), line, ((), GO), GO, ())), False)
        self.assertIs(is_hermite_paper((), line, (((), GO), ((), GO), line, GO, ())), True)
        special = ((ONE,), (NOUGHT, ONE))
        nought = ((), (ONE,))
        self.assertIs(is_hermite_paper(EXP, special, (nought, nought, special, (ONE,), ())), True)
        self.assertIs(is_hermite_paper(LOG, special, (nought, nought, special, (ONE,), ())), False)

    def test_wrong_arguments(self):
        for function, behind in ((hermite, (None,)), (hermite_paper, (None,)), (is_hermite_paper, (None, None)), (hermite_turn, (None,) * 3)):
            self.refuses_all(InvalidTower, function, (), NO_TOWERS, behind)
        for tower in ((), EXP, (("log", U), ("exp", U))):
            things = [value for value in any_values() if not is_number(field_of(tower), value)] + [(), ((), ()), (((1, 1),), ((2, 1),))]
            self.refuses_all(InvalidNumber, hermite, (tower,), things)
            self.refuses_all(InvalidNumber, hermite_paper, (tower,), things)
            self.refuses_all(InvalidNumber, is_hermite_paper, (tower,), things, (None,))
            wrong = [value for value in any_values() if not is_line(below(tower), value)] + [((0, 1),), (1,)]
            self.refuses_all(InvalidLine, hermite_turn, (tower,), wrong, (None, None))
            self.refuses_all(InvalidLine, hermite_turn, (tower, ()), wrong, (None,))
            # A line that does not fit comes behind what is no line.
            self.refuses_all(InvalidLine, hermite_turn, (tower, (), ()), wrong)

    def test_each_name_is_defined_here(self):
        for name in "hermite_turn hermite hermite_paper is_hermite_paper".split():
            self.assertEqual(getattr(module, name).__module__, "towerback.hermite")


def negative(field, number):
    """Return a number taken the other way."""
    return number_minus(field, number_of(field, 0, 1), number)


if __name__ == "__main__":
    unittest.main()
