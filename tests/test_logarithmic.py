"""Points 36 and 101: lines in a logarithm."""

import unittest

from tests.risch_by_trial import INNER, NOT_INNER, great_plus, lifted, log_slope, short_function, some_function
from tests.support import GREATEST, X, Asks, any_values, changed, chances, trimmed
from tests.test_limited import is_paper
from tests.test_stepparts import NOUGHT, ONE, XX, powers
from tests.test_towers import U, V, W, rational
from towerback import logarithmic
from towerback.errors import InvalidInner, InvalidLine, TooMany
from towerback.fieldways import inverse_of, is_line, number_minus, number_of, number_plus, number_times, quotient_of
from towerback.limited import limited_paper
from towerback.lineways import line_plus
from towerback.logarithmic import log_line_paper, takes_log_line
from towerback.oneform import plain_sums
from towerback.rootsums import sums_derived

SHIFTED = (((1, 1),), ((1, 1), (1, 1)))
NOT_LINES = [value for value in any_values() if not is_line(X, value)] + [(NOUGHT,), ONE, [ONE], (rational(GREATEST + 1),), (U, NOUGHT)]


def tower(inner):
    """Return the tower of the logarithm of a function."""
    return (("log", inner),)


def lifted_sums(sums):
    """Return root sums of () as those of a tower of one step."""
    return tuple((line, tuple(lifted(number) for number in thing)) for line, thing in sums)


def comes_to(inner, line, own, sums):
    """Tell whether the derivatives of a line in the logarithm and of root sums come to a line."""
    return great_plus(tower(inner), (own, (ONE,)), lifted_sums(sums)) == (line, (ONE,))


def is_log_paper(inner, line, value):
    """Tell whether a paper of a line in a logarithm is as told, by the words of the document."""
    if value[0] == "yes":
        return comes_to(inner, line, value[1], value[2])
    index, pairs, paper = value[1:]
    if not 1 <= index < len(line) or len(pairs) != len(line) - 1 - index:
        return False
    left = line[-1]
    for at, (part, share) in zip(range(len(line) - 1, 0, -1), pairs):
        total = number_plus(X, great_slope(part), number_times(X, number_of(X, share[0], share[1]), log_slope(inner)))
        if total != left:
            return False
        left = number_minus(X, line[at - 1], number_times(X, number_times(X, number_of(X, at, 1), part), log_slope(inner)))
    return paper[0] == "no" and is_paper(inner, left, paper)


def great_slope(part):
    """Return the derivative of a rational function, of any size."""
    return great_plus((), part, ())


def some_line(chance, many):
    """Return some line over X of so many numbers at most."""
    return trimmed(X, [some_function(chance, 1) for _ in range(many)])


def short(line):
    """Tell whether a line over X is within the limits 4 and 6."""
    return is_line(X, line) and len(line) < 6 and all(short_function(part) for part in line)


def random_pole(chance):
    """Return one by x less some integer."""
    return quotient_of(0, ((1, 1),), ((chance.randint(20, 30), 1), (1, 1)))


class Logarithmic(Asks, unittest.TestCase):
    def test_papers(self):
        words, places = [], set()
        for seed, inner in enumerate(INNER):
            chance = chances(seed)
            for _ in range(20):
                own = some_line(chance, chance.randint(1, 4))
                line = great_plus(tower(inner), (own, (ONE,)), ())[0]
                if chance.randrange(3):
                    more = (NOUGHT,) * chance.randint(0, 2) + (random_pole(chance),)
                    line = line_plus(X, line, more)
                if short(line):
                    paper = self.told(inner, line)
                    words.append(paper[0])
                    if paper[0] == "no":
                        places.add("top" if paper[1] == len(line) - 1 else "middle")
        self.assertGreater(min(words.count("yes"), words.count("no")), 20)
        self.assertEqual(places, {"top", "middle"})

    def told(self, inner, line):
        """Return the paper of a line, having asked that it is as told."""
        paper = log_line_paper(inner, line)
        self.assertTrue(is_log_paper(inner, line, paper), (inner, line, paper))
        self.assertIs(takes_log_line(inner, line, paper), True)
        if paper[0] == "yes":
            self.assertEqual(plain_sums(paper[2]), paper[2])
        return paper

    def test_planted_lines(self):
        """Derivatives of lines, and of root sums, have a "yes"; with sums and without."""
        many = []
        for seed, inner in enumerate(INNER):
            chance, done = chances(seed + 30), 0
            while done < 8:
                own = some_line(chance, chance.randint(0, 4))
                line = great_plus(tower(inner), (own, (ONE,)), ())[0]
                if chance.randrange(2):
                    sums = ((((-2, 3), (1, 1)), (rational(chance.randint(-3, 3), 1),)), (((1, 1), (0, 1), (1, 1)), (rational(1, 1), rational(2))))
                    line = number_plus(XX, (line, (ONE,)), lifted(sums_derived((), sums)))[0]
                if short(line):
                    done += 1
                    paper = self.told(inner, line)
                    self.assertEqual(paper[0], "yes")
                    many.append(len(paper[2]))
        self.assertTrue(0 in many and max(many) > 1)

    def test_known_papers(self):
        self.assertEqual(log_line_paper(U, ()), ("yes", (), ()))
        self.assertEqual(log_line_paper(U, (ONE,)), ("yes", (U,), ()))
        # The logarithm itself: x times it less x.
        self.assertEqual(log_line_paper(U, (NOUGHT, ONE)), ("yes", (rational(0, -1), U), ()))
        # By x its powers are powers of it again.
        self.assertEqual(log_line_paper(U, (NOUGHT, W)), ("yes", (NOUGHT, NOUGHT, number_of(X, 1, 2)), ()))
        # At the power 0 there may be logarithms, at no other one.
        self.assertEqual(log_line_paper(U, (SHIFTED,)), ("yes", (), ((((-1, 1), (1, 1)), (rational(1, 1),)),)))
        self.assertEqual(log_line_paper(U, (NOUGHT, SHIFTED)), ("no", 1, (), ("no", NOUGHT, SHIFTED)))
        self.assertEqual(log_line_paper(U, (NOUGHT, SHIFTED, ONE))[:3], ("no", 1, ((U, (0, 1)),)))
        self.assertEqual(log_line_paper(U, (ONE, NOUGHT, SHIFTED)), ("no", 2, (), ("no", NOUGHT, SHIFTED)))
        paper = log_line_paper(U, (NOUGHT, SHIFTED, NOUGHT, ONE))
        self.assertEqual(paper[:3], ("no", 1, ((U, (0, 1)), (rational(0, -3), (0, 1)))))
        paper = log_line_paper(U, (NOUGHT, SHIFTED, NOUGHT, U, W))
        self.assertEqual(paper[:2] + (len(paper[2]),), ("no", 1, 3))
        # What is left below may be what the number there was not.
        line = (NOUGHT, number_times(X, SHIFTED, rational(2, 2)), number_of(X, 1, 1))
        self.assertEqual(log_line_paper(U, line)[0], "yes")
        # Sums of a pair of roots.
        paper = log_line_paper(U, (quotient_of(0, ((1, 1),), ((1, 1), (0, 1), (1, 1))),))
        self.assertEqual(paper, ("yes", (), ((((1, 4), (0, 1), (1, 1)), (U, rational(2))),)))

    def test_judge(self):
        lines = [(U, (NOUGHT, SHIFTED, NOUGHT, U, W)), (U, ()), (U, (NOUGHT, ONE)), (U, (SHIFTED, W)), (V, (NOUGHT, ONE)), (U, (NOUGHT, SHIFTED, ONE)), (U, (ONE, NOUGHT, SHIFTED))]
        for inner, line in lines:
            paper = log_line_paper(inner, line)
            self.judges(takes_log_line, (inner, line), paper, False)
            for value in changed(paper):
                if takes_log_line(inner, line, value):
                    if value[0] == "yes":
                        self.assertTrue(comes_to(inner, line, value[1], value[2]))
                    else:
                        # Each b may have any constant.
                        self.assertEqual((value[0], value[1], len(value[2]), value[3][0]), paper[:2] + (len(paper[2]), "no"))
            for at, part in enumerate(paper):
                for value in any_values():
                    if value != part:
                        self.assertIs(takes_log_line(inner, line, paper[:at] + (value,) + paper[at + 1:]), False)

    def test_other_papers(self):
        """Whatever fits is taken: constants, the logarithm as a sum, sums made of others, and more than 16 of them."""
        great = rational(10 ** 119 + 1)
        self.assertIs(takes_log_line(U, (NOUGHT, ONE), ("yes", (number_plus(X, rational(0, -1), rational(5)), U), ())), True)
        self.assertIs(takes_log_line(U, (ONE,), ("yes", ((((10 ** 119 + 1, 1), (1, 1)), ((1, 1),)),), ())), True)
        self.assertIs(takes_log_line(U, (), ("yes", (great,), ())), True)
        log = ((((-1, 1), (1, 1)), (U,)),)
        self.assertIs(takes_log_line(U, (W,), ("yes", (), log)), True)
        self.assertIs(takes_log_line(U, (W,), ("yes", (NOUGHT, ONE), ())), True)
        self.assertIs(takes_log_line(U, (W,), ("yes", (NOUGHT, ONE), log)), False)
        self.assertIs(takes_log_line(U, (number_plus(X, W, W),), ("yes", (NOUGHT, ONE), log)), True)
        seventeen = ((((-1, 17), (1, 1)), (U,)),) * 17
        self.assertIs(takes_log_line(U, (W,), ("yes", (), seventeen)), True)
        self.assertIs(takes_log_line(U, (W,), ("yes", (), seventeen[1:])), False)
        constant = ((((-10 ** 119, 1), (1, 1)), (great,)),)
        self.assertIs(takes_log_line(U, (W,), ("yes", (), log + constant)), True)
        # No sums: a root that is 0, a line that can be split, a thing that is nought, sums of another tower.
        for wrong in ((((0, 1), (1, 1)), (U,)), (((-1, 1), (0, 1), (1, 1)), (U,)), (((-1, 1), (1, 1)), ()), (((-1, 1), (1, 1)), (lifted(U),))):
            self.assertIs(takes_log_line(U, (W,), ("yes", (), log + (wrong,))), False)
            self.assertIs(takes_log_line(U, (), ("yes", (), (wrong,))), False)
        # Constants in the pairs go down: what is left at the next index has its share of the logarithm's derivative.
        line = (NOUGHT, SHIFTED, ONE)
        other = rational(7, 1)
        left = number_minus(X, SHIFTED, number_times(X, number_times(X, rational(2), other), W))
        paper = ("no", 1, ((other, (0, 1)),), limited_paper(U, left))
        self.assertIs(takes_log_line(U, line, paper), True)
        self.assertIs(takes_log_line(U, line, paper[:2] + (((U, (0, 1)),),) + paper[3:]), False)
        self.assertIs(takes_log_line(U, line, paper[:2] + (((other, (1, 1)),),) + paper[3:]), False)
        for index in (0, 2, -1, True, "1", None, 3):
            self.assertIs(takes_log_line(U, line, ("no", index) + paper[2:]), False)
        self.assertIs(takes_log_line(U, (SHIFTED,), ("no", 0, (), ("no", NOUGHT, SHIFTED))), False)

    def test_never_both(self):
        for line, index, left in (((NOUGHT, ONE), 1, ONE), ((NOUGHT, W), 1, W), ((W, W), 1, W)):
            self.assertEqual(log_line_paper(U, line)[0], "yes")
            for paper in (("no", NOUGHT, left), ("yes", NOUGHT, (1, 1)), ("no", U, NOUGHT), limited_paper(U, left)):
                self.assertIs(takes_log_line(U, line, ("no", index, (), paper)), False)

    def test_limits(self):
        long = tuple([NOUGHT] * 5 + [ONE])
        cases = [((powers(7), long), 6), ((U, long), 4), ((U, (powers(7),) + long[1:]), 4), ((U, (powers(7),)), 6), ((powers(7), (powers(7),)), 6),
                 ((inverse_of(X, powers(7)), ()), 6), ((U, (ONE, inverse_of(X, powers(7)))), 6)]
        for arguments, limit in cases:
            for call, behind in ((log_line_paper, ()), (takes_log_line, (None,))):
                self.limited(limit, call, *arguments, *behind)
        self.assertEqual(log_line_paper(powers(6), (powers(6),) + (NOUGHT,) * 3 + (ONE,))[0], "yes")

    def limited(self, limit, function, *arguments):
        """Ask that a call raises TooMany with a limit."""
        with self.assertRaises(TooMany) as caught:
            function(*arguments)
        self.assertEqual(caught.exception.limit, limit, arguments)

    def test_what_is_left_below_may_be_too_long(self):
        """12 for the simple part at the power 0, but for lines with a "no"."""
        def poles(first, many):
            """Return the sum of one by x less each of some integers."""
            total = NOUGHT
            for at in range(first, first + many):
                total = number_plus(X, total, quotient_of(0, ((1, 1),), ((-at, 1), (1, 1))))
            return total
        # b is the integral of D b; what is left at the power 0 has the poles of b, of D u / u, and of the number there.
        inner, upper, lower = poles(1, 6), great_slope(poles(-5, 3)), poles(40, 6)
        self.limited(12, log_line_paper, inner, (lower, upper))
        self.assertIs(takes_log_line(inner, (lower, upper), None), False)
        self.assertEqual(log_line_paper(inner, (lower, upper, poles(50, 1)))[0], "no")
        self.assertEqual(log_line_paper(inner, (lower,))[0], "yes")
        self.assertEqual(len(log_line_paper(inner, (lower,))[2]), 1)

    def test_wrong_arguments(self):
        for call, behind in ((log_line_paper, ()), (takes_log_line, (None,))):
            self.refuses_all(InvalidInner, call, (), any_values() + NOT_INNER, (None,) + behind)
            for inner in (U, powers(7)):
                self.refuses_all(InvalidLine, call, (inner,), NOT_LINES, behind)

    def test_each_name_is_defined_here(self):
        for name in "log_line_paper takes_log_line".split():
            self.assertEqual(getattr(logarithmic, name).__module__, "towerback.logarithmic")


if __name__ == "__main__":
    unittest.main()
