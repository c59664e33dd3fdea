"""Points 38 and 103: papers of things of one step, steady residues."""

import unittest

from tests.risch_by_trial import INNER, great_plus, lifted, short_thing, some_function, some_thing, thing_from
from tests.sums_by_trial import constant_thing, random_sum
from tests.support import GREATEST, X, Asks, any_values, changed, chances, random_line
from tests.test_exponential import is_exp_paper
from tests.test_logarithmic import is_log_paper, lifted_sums
from tests.test_stepparts import NO_STEPS, NOUGHT, ONE, STEPS, T, XX, powers
from tests.test_towers import U, W, rational
from towerback import onestep
from towerback.errors import InvalidNumber, InvalidStep, TooMany
from towerback.fieldways import inverse_of, is_number, number_minus, number_of, number_plus, quotient_of
from towerback.hermite import hermite, hermite_paper, is_hermite_paper
from towerback.lineways import divided_lines, line_minus, line_times, slope_of
from towerback.logarithmic import log_line_paper
from towerback.logarithms import logarithms
from towerback.onestep import has_steady_residues, one_step_paper, takes_one_step
from towerback.rawtowers import derived_line
from towerback.rational import integral_of
from towerback.residues import residue_flaw
from towerback.rootsums import sums_derived
from towerback.stepparts import step_parts
from towerback.towers import derivative_of

LOG, EXP = ("log", U), ("exp", U)
SHIFTED = (((1, 1),), ((1, 1), (1, 1)))
OTHERS = [("log", U), ("exp", U), ("log", INNER[1]), ("exp", W), ("exp", rational(0, 0, -1)), ("log", rational(1, 1)), ("log", INNER[5]), ("exp", INNER[7])]
NOT_THINGS = [value for value in any_values() if not is_number(XX, value)] + [(), ((), ()), U, ((ONE,), (rational(2),)), T + (1,)]


def plain_steady(line, under):
    """Tell whether a line is steady for another one, by the words of the document."""
    first = [derivative_of((), number) for number in line]
    other = [derivative_of((), number) for number in under]
    found = line_minus(X, line_times(X, clean(first), slope_of(X, under)), line_times(X, slope_of(X, line), clean(other)))
    return divided_lines(X, found, under)[1] == ()


def clean(numbers):
    """Return numbers without the noughts at their end."""
    numbers = list(numbers)
    while numbers and numbers[-1] == NOUGHT:
        numbers.pop()
    return tuple(numbers)


def is_step_paper(step, thing, value):
    """Tell whether a paper of a thing is as told, by the words of the document."""
    tower = (step,)
    if value[0] == "yes":
        return great_plus(tower, value[1], value[2]) == thing
    base, why = value[1:]
    if not is_hermite_paper(tower, thing, base):
        return False
    over, under = base[1]
    if why[0] == "residue":
        rest = divided_lines(X, line_minus(X, line_times(X, why[1], derived_line(tower, under)), over), under)[1]
        return rest == () and len(why[1]) < len(under) and not plain_steady(why[1], under)
    low, row = step_parts(step, base[2])[:2] if short_thing(base[2]) else (0, base[2][0])
    if step[0] == "log":
        return why[0] == "level" and is_log_paper(step[1], row, ("no",) + why[1:])
    return why[0] == "power" and is_exp_paper(step[1], low, row, ("no",) + why[1:])


def some_things(chance, step):
    """Return things of a step: any, derivatives of things and of root sums, and lines of powers."""
    tower = (step,)
    found = [some_thing(chance), some_thing(chance, 1), great_plus(tower, some_thing(chance), ())]
    found.append(number_plus(XX, great_plus(tower, some_thing(chance, 2, 1), ()), lifted(some_function(chance))))
    line = random_line(chance, X, 3)
    found.append(thing_from(0 if step[0] == "log" else -chance.randint(0, 2), line))
    root_sum = random_sum(chance, tower, chance.choice((((-2, 1), (1, 1)), ((1, 3), (1, 1)), ((-2, 1), (0, 1), (1, 1)))), 1)
    found.append(great_plus(tower, some_thing(chance, 1, 1), (root_sum,)))
    found.append(number_plus(XX, found[-1], lifted(SHIFTED)))
    return [thing for thing in found if short_thing(thing)]


class OneStep(Asks, unittest.TestCase):
    def told(self, step, thing):
        """Return the paper of a thing, having asked that it is as told; None if what is left is too long."""
        try:
            paper = one_step_paper(step, thing)
        except TooMany as error:
            self.assertEqual(error.limit, 12)
            return None
        self.assertTrue(is_step_paper(step, thing, paper), (step, thing, paper))
        self.assertIs(takes_one_step(step, thing, paper), True)
        if paper[0] == "no":
            self.assertEqual(paper[1], hermite_paper((step,), thing))
            self.assertEqual(paper[1][:3], hermite((step,), thing))
        return paper

    def test_papers(self):
        """All words, with sums and without, and each of the reasons."""
        found = set()
        for seed, step in enumerate(OTHERS):
            chance = chances(seed)
            for _ in range(8):
                for thing in some_things(chance, step):
                    paper = self.told(step, thing)
                    if paper is not None:
                        self.assertIs(has_steady_residues(step, thing), paper[0] == "yes" or paper[2][0] != "residue")
                        found.add((step[0], paper[0], paper[2][0] if paper[0] == "no" else min(2, len(paper[2]))))
        for kind, word in (("log", "level"), ("exp", "power")):
            self.assertLessEqual({(kind, "no", "residue"), (kind, "no", word), (kind, "yes", 0), (kind, "yes", 1), (kind, "yes", 2)}, found)

    def test_planted_derivatives(self):
        for seed, step in enumerate(OTHERS):
            chance, done = chances(seed + 20), 0
            while done < 8:
                sums = ()
                if chance.randrange(2):
                    sums = (random_sum(chance, (step,), chance.choice((((-2, 1), (1, 1)), ((1, 3), (1, 1)), ((1, 1), (0, 1), (1, 1)))), 1),)
                thing = great_plus((step,), some_thing(chance, 2, 1), sums)
                if short_thing(thing):
                    done += 1
                    paper = self.told(step, thing)
                    if paper is not None:
                        self.assertEqual(paper[0], "yes")
                    self.assertIs(has_steady_residues(step, thing), True)

    def test_sums_of_a_yes(self):
        """They are the logarithms of h, and those of what is integrated at the level or power 0; none is constant."""
        for step in (LOG, EXP):
            tower = (step,)
            sums = ((((-2, 1), (1, 1)), ((((U, ONE)), (ONE,)),)), (((-3, 1), (1, 1)), (lifted(rational(1, 1)),)))
            thing = sums_derived(tower, sums)
            paper = self.told(step, thing)
            plain = hermite(tower, thing)[1]
            first = logarithms(tower, plain[0], plain[1])
            self.assertEqual(paper[2][:len(first)], first)
            self.assertEqual((len(first), len(paper[2])), (1, 2))
            self.assertEqual(paper[2][1:], lifted_sums(integral_of((((3, 1),), ((1, 1), (1, 1))))[1]))
        # Several residues, of parts of one under.
        for step in (LOG, EXP):
            tower = (step,)
            sums = ((((-5, 1), (1, 1)), (((rational(0, 0, 1), ONE), (ONE,)),)), (((-2, 1), (1, 1)), (((U, ONE), (ONE,)),)), (((1, 3), (1, 1)), (((rational(3), U, ONE), (ONE,)),)))
            thing = sums_derived(tower, sums)
            self.assertIs(short_thing(thing), True)
            paper = self.told(step, thing)
            self.assertEqual((paper[0], len(paper[2]), paper[2][:3]), ("yes", 3, sums))
            self.assertIs(has_steady_residues(step, thing), True)
        # What h leaves over for an exponential is integrated at the power 0, also with powers below it.
        for low in range(-2, 1):
            thing = number_plus(XX, ((ONE,), (ONE, ONE)), thing_from(low, (ONE, U, W)))
            paper = self.told(EXP, thing)
            if paper[0] == "yes":
                self.assertEqual(len(paper[2]), 2)
            else:
                self.assertEqual(paper[2][:2], ("power", 2 + low))
        thing = number_plus(XX, ((ONE,), (ONE, ONE)), thing_from(-3, (ONE,)))
        self.assertEqual(self.told(EXP, thing)[1], number_plus(XX, lifted(U), thing_from(-3, (number_of(X, -1, 3),))))
        thing = number_plus(XX, ((ONE,), (ONE, ONE)), thing_from(-2, (ONE, NOUGHT, W)))
        self.assertEqual(len(self.told(EXP, thing)[2]), 2)
        thing = ((ONE,), (ONE, ONE))
        paper = self.told(EXP, thing)
        self.assertEqual(paper, ("yes", lifted(U), ((((1, 1), (1, 1)), (((ONE, ONE), (ONE,)),)),)))

    def test_known_papers(self):
        self.assertEqual(one_step_paper(LOG, ((ONE,), (NOUGHT, ONE)))[2], ("residue", (U,)))
        self.assertEqual(one_step_paper(LOG, number_of(XX, 0, 1)), ("yes", number_of(XX, 0, 1), ()))
        self.assertEqual(one_step_paper(EXP, T), ("yes", T, ()))
        self.assertEqual(one_step_paper(LOG, T), ("yes", ((rational(0, -1), U), (ONE,)), ()))
        # One by x times the logarithm is the derivative of the logarithm's logarithm.
        self.assertEqual(one_step_paper(LOG, ((W,), (NOUGHT, ONE))), ("yes", number_of(XX, 0, 1), ((((-1, 1), (1, 1)), (T,)),)))
        # The integral of the exponential by x, and that of the logarithm by x + 1, are none.
        self.assertEqual(one_step_paper(EXP, ((NOUGHT, W), (ONE,)))[2], ("power", 1, ("no", ((1, 1),), -1, ((1, 1),))))
        self.assertEqual(one_step_paper(LOG, ((NOUGHT, SHIFTED), (ONE,)))[2], ("level", 1, (), ("no", NOUGHT, SHIFTED)))
        self.assertEqual(one_step_paper(("exp", rational(0, 0, -1)), T)[2][:2], ("power", 1))
        # Of several powers without a solution, the least one is told, below 0 ahead.
        self.assertEqual(one_step_paper(EXP, thing_from(-4, (W, NOUGHT, W, NOUGHT, NOUGHT)))[2][:2], ("power", -4))
        self.assertEqual(one_step_paper(EXP, ((NOUGHT, W, W), (ONE,)))[2][:2], ("power", 1))
        # A pair of roots: the exponential by one and its square.
        paper = one_step_paper(EXP, ((NOUGHT, ONE), (ONE, NOUGHT, ONE)))
        self.assertEqual(paper, ("yes", number_of(XX, 0, 1), ((((1, 4), (0, 1), (1, 1)), (T, constant_thing((EXP,), 2)[0])),)))

    def test_steady_residues(self):
        self.assertIs(has_steady_residues(LOG, ((ONE,), (NOUGHT, ONE))), False)
        self.assertIs(has_steady_residues(LOG, ((W,), (NOUGHT, ONE))), True)
        self.assertIs(has_steady_residues(EXP, ((ONE,), (ONE, ONE))), True)
        self.assertIs(has_steady_residues(EXP, ((U,), (ONE, ONE))), False)
        for step in STEPS:
            self.assertIs(has_steady_residues(step, number_of(XX, 0, 1)), True)
            self.assertIs(has_steady_residues(step, T), True)
        # Steady exactly if the residue line of the simple part has no flaw.
        both = set()
        for seed, step in enumerate(OTHERS):
            chance = chances(seed + 60)
            for _ in range(6):
                root_sum = (((chance.randint(1, 5), 1), (1, 1)), (((random_line(chance, X, 1) or (ONE,)) + (ONE,), (ONE,)),))
                for thing in some_things(chance, step) + [sums_derived((step,), (root_sum,))]:
                    plain = hermite((step,), thing)[1]
                    if plain[0]:
                        steady = residue_flaw((step,), plain[0], plain[1]) is None
                        both.add(steady)
                        self.assertIs(has_steady_residues(step, thing), steady)
        self.assertEqual(both, {True, False})

    def papers(self):
        """Return steps and things with papers of all kinds."""
        things = [
            (LOG, ((ONE,), (NOUGHT, ONE))), (LOG, T), (LOG, ((NOUGHT, SHIFTED, ONE), (ONE,))), (LOG, ((W,), (NOUGHT, ONE))),
            (EXP, ((NOUGHT, W), (ONE,))), (EXP, ((ONE,), (ONE, ONE))), (EXP, ((U,), (ONE, ONE))), (EXP, thing_from(-2, (W, ONE))),
        ]
        return [(step, thing, one_step_paper(step, thing)) for step, thing in things]

    def test_judge(self):
        for step, thing, paper in self.papers():
            self.judges(takes_one_step, (step, thing), paper, False)
            for value in changed(paper):
                if takes_one_step(step, thing, value):
                    self.assertEqual(value[0], paper[0])
                    self.assertTrue(is_step_paper(step, thing, value), value)
            for at, part in enumerate(paper):
                for value in any_values():
                    if value != part:
                        self.assertIs(takes_one_step(step, thing, paper[:at] + (value,) + paper[at + 1:]), False)
            if paper[0] == "no":
                for at, part in enumerate(paper[2]):
                    for value in any_values():
                        if value != part:
                            other = paper[:2] + (paper[2][:at] + (value,) + paper[2][at + 1:],)
                            self.assertIs(takes_one_step(step, thing, other), False)

    def test_the_base_may_be_any_hermite_paper(self):
        """A g with a line in it, and the rest less by its derivative: then the rest's own row is judged."""
        step, thing = LOG, ((NOUGHT, SHIFTED), (ONE,))
        base, why = one_step_paper(step, thing)[1:]
        more = ((NOUGHT, U), (ONE,))
        rest = number_minus(XX, base[2], derivative_of((step,), more))
        other = (number_plus(XX, base[0], more), base[1], rest) + base[3:]
        self.assertIs(is_hermite_paper((step,), thing, other), True)
        left = log_line_paper(U, rest[0])
        self.assertIs(takes_one_step(step, thing, ("no", other, ("level",) + left[1:])), True)
        self.assertIs(takes_one_step(step, thing, ("no", other, why)), False)
        self.assertIs(takes_one_step(step, thing, ("no", base, why)), True)
        spoilt = (more,) + base[1:]
        self.assertIs(takes_one_step(step, thing, ("no", spoilt, why)), False)

    def test_reasons_of_the_other_kind(self):
        log, exp = (LOG, ((NOUGHT, SHIFTED), (ONE,))), (EXP, ((NOUGHT, W), (ONE,)))
        by_log, by_exp = one_step_paper(*log), one_step_paper(*exp)
        base = hermite_paper((EXP,), log[1])
        self.assertIs(takes_one_step(EXP, log[1], ("no", base, by_log[2])), False)
        base = hermite_paper((LOG,), exp[1])
        self.assertIs(takes_one_step(LOG, exp[1], ("no", base, by_exp[2])), False)
        # A line of residues that is steady shows nothing; neither does one that leaves something else, or is too long.
        thing = ((W,), (NOUGHT, ONE))
        base = hermite_paper((LOG,), thing)
        for line in ((ONE,), (U,), (), (ONE, ONE), (NOUGHT, W)):
            self.assertIs(takes_one_step(LOG, thing, ("no", base, ("residue", line))), False)
        thing = ((ONE,), (NOUGHT, ONE))
        base = hermite_paper((LOG,), thing)
        for line in ((W,), (), (U, ONE), (rational(1, 1),), (rational(10 ** 119),)):
            self.assertIs(takes_one_step(LOG, thing, ("no", base, ("residue", line))), False)
        self.assertIs(takes_one_step(LOG, thing, ("no", base, ("residue", (U,)))), True)

    def test_great_papers(self):
        great = lifted(rational(10 ** 119 + 1))
        zero = number_of(XX, 0, 1)
        self.assertIs(takes_one_step(LOG, zero, ("yes", great, ())), True)
        self.assertIs(takes_one_step(LOG, zero, ("yes", great, ((((-10 ** 119, 1), (1, 1)), (great,)),))), True)
        seventeen = ((((-1, 17), (1, 1)), (T,)),) * 17
        thing = ((W,), (NOUGHT, ONE))
        self.assertIs(takes_one_step(LOG, thing, ("yes", great, seventeen)), True)
        self.assertIs(takes_one_step(LOG, thing, ("yes", great, seventeen[1:])), False)
        self.assertIs(takes_one_step(LOG, lifted(W), ("yes", T, ())), True)
        self.assertIs(takes_one_step(LOG, lifted(W), ("yes", zero, ((((-1, 1), (1, 1)), (lifted(U),)),))), True)
        self.assertIs(takes_one_step(LOG, lifted(W), ("yes", zero, ((((-1, 1), (1, 1)), (U,)),))), False)

    def test_never_both(self):
        """Of what is a derivative no paper says "no", whatever its reason is made of."""
        for step, thing, paper in self.papers():
            if paper[0] == "yes":
                base = hermite_paper((step,), thing)
                for other in self.papers():
                    if other[2][0] == "no":
                        self.assertIs(takes_one_step(step, thing, ("no", base, other[2][2])), False)
                        self.assertIs(takes_one_step(step, thing, other[2]), False)

    def test_limits(self):
        for kind in ("log", "exp"):
            good, long = (kind, powers(6)), (kind, powers(7))
            five, six = ((NOUGHT,) * 4 + (ONE,), (ONE,)), ((NOUGHT,) * 5 + (ONE,), (ONE,))
            great, both = ((powers(7),), (ONE,)), ((powers(7),) + (NOUGHT,) * 4 + (ONE,), (ONE,))
            cases = [(long, five, 6), (long, six, 6), (long, great, 6), (good, six, 4), (good, great, 6), (good, both, 4), (good, ((ONE,), (NOUGHT,) * 5 + (ONE,)), 4),
                     (good, ((inverse_of(X, powers(7)),), (ONE,)), 6), (good, ((ONE,), (powers(7), ONE)), 6), ((kind, inverse_of(X, powers(7))), five, 6)]
            for step, thing, limit in cases:
                for call, behind in ((one_step_paper, ()), (has_steady_residues, ()), (takes_one_step, (None,))):
                    self.limited(limit, call, step, thing, *behind)
            self.assertIs(takes_one_step(good, five, one_step_paper(good, five)), True)
            self.assertIs(has_steady_residues(good, five), True)

    def limited(self, limit, function, *arguments):
        """Ask that a call raises TooMany with a limit."""
        with self.assertRaises(TooMany) as caught:
            function(*arguments)
        self.assertEqual(caught.exception.limit, limit, arguments)

    def test_what_is_left_may_be_too_long(self):
        """12 for the simple part at the level 0, with the b that is returned; but only behind a "no"."""
        def poles(first, many):
            """Return the sum of one by x less each of some integers."""
            total = NOUGHT
            for at in range(first, first + many):
                total = number_plus(X, total, quotient_of(0, ((1, 1),), ((-at, 1), (1, 1))))
            return total
        inner, upper, lower = poles(1, 6), derivative_of((), poles(-5, 3)), poles(40, 6)
        step = ("log", inner)
        self.limited(12, one_step_paper, step, ((lower, upper), (ONE,)))
        self.assertIs(has_steady_residues(step, ((lower, upper), (ONE,))), True)
        self.assertIs(takes_one_step(step, ((lower, upper), (ONE,)), None), False)
        self.assertEqual(one_step_paper(step, ((lower, upper, poles(50, 1)), (ONE,)))[2][0], "level")
        # A residue that is no constant comes ahead, too.
        thing = number_plus(XX, ((lower, upper), (ONE,)), ((ONE,), (NOUGHT, ONE)))
        self.assertEqual(one_step_paper(step, thing)[2][0], "residue")

    def test_wrong_arguments(self):
        for call, behind in ((one_step_paper, ()), (has_steady_residues, ()), (takes_one_step, (None,))):
            self.refuses_all(InvalidStep, call, (), NO_STEPS, (None,) + behind)
            for step in STEPS + [("log", powers(7))]:
                self.refuses_all(InvalidNumber, call, (step,), NOT_THINGS, behind)
        self.refused(InvalidNumber, one_step_paper, LOG, lifted(rational(GREATEST + 1)))

    def test_each_name_is_defined_here(self):
        for name in "one_step_paper takes_one_step has_steady_residues".split():
            self.assertEqual(getattr(onestep, name).__module__, "towerback.onestep")


if __name__ == "__main__":
    unittest.main()
