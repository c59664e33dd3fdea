"""Points 73 and 74: roots over the fractions and over primes."""

import math
import unittest
from fractions import Fraction

from tests.support import FIELDS, GREATEST, Asks, all_lines, any_values, changed, chances
from towerback import lineroots
from towerback.errors import EmptyLine, InvalidLine, TooMany, UnfitField
from towerback.fieldways import is_line, number_of
from towerback.lineroots import judged_roots, roots_of, roots_paper
from towerback.lineways import does_divide, line_at, line_times, powered_line
from towerback.squarefree import is_squarefree_paper, radical_line, squarefree_paper


def product_of(field, roots, more=None):
    """Return the product of some lines (root taken the other way, one), and of one line more."""
    line = more or (number_of(field, 3, 1),)
    for over, under in roots:
        line = line_times(field, line, (number_of(field, -over, under), number_of(field, 1, 1)))
    return line


def told_roots(roots):
    """Return the pairs (root, times) of a list of fractions."""
    found = sorted(Fraction(*root) for root in roots)
    return tuple(((root.numerator, root.denominator), found.count(root)) for root in sorted(set(found)))


def cleared(radical):
    """Return L and G of a radical line."""
    scale = math.lcm(*(under for _, under in radical))
    degree = len(radical) - 1
    return scale, [over * scale ** (degree - at) // under for at, (over, under) in enumerate(radical)]


def value(line, number):
    """Return the value of a list of integers as a line."""
    return sum(part * number ** at for at, part in enumerate(line))


def is_fit(prime, line):
    """Tell whether no number is nought mod a prime of a line of integers and of its derivative."""
    slope = [at * part for at, part in enumerate(line)][1:]
    return all(value(line, k) % prime or value(slope, k) % prime for k in range(prime))


def primes(most):
    """Return the primes up to a bound."""
    return [k for k in range(2, most + 1) if all(k % d for d in range(2, math.isqrt(k) + 1))]


def paper_with(line, prime):
    """Return the paper of a line's roots with a small prime, found by trying all integers."""
    _, whole = cleared(radical_line(0, line))
    exponent = 1
    while prime ** exponent <= 2 + 2 * max(map(abs, whole)):
        exponent += 1
    power = prime ** exponent
    lifts = [k for k in range(power) if value(whole, k) % power == 0]
    return squarefree_paper(0, line), prime, exponent, tuple(sorted(lifts, key=lambda k: k % prime))


class Roots(Asks, unittest.TestCase):
    def check(self, line):
        """Ask that the paper of a line over the fractions is as told; return the roots."""
        paper = roots_paper(0, line)
        inner, prime, exponent, lifts = paper
        self.assertIs(is_squarefree_paper(0, line, inner), True)
        scale, whole = cleared(radical_line(0, line))
        self.assertEqual(whole[-1], 1)
        self.assertEqual(prime, next(k for k in primes(200) if is_fit(k, whole)))
        bound = 2 + 2 * max(map(abs, whole))
        self.assertTrue(prime ** (exponent - 1) <= bound < prime ** exponent)
        at_nought = [k for k in range(prime) if value(whole, k) % prime == 0]
        self.assertEqual([lift % prime for lift in lifts], at_nought)
        for lift in lifts:
            self.assertTrue(0 <= lift < prime ** exponent and value(whole, lift) % prime ** exponent == 0)
        roots = roots_of(0, line)
        self.assertEqual(judged_roots(0, line, paper), roots)
        values = [Fraction(*root) for root, _ in roots]
        self.assertEqual(values, sorted(set(values)))
        for root, times in roots:
            part = (number_of(0, -root[0], root[1]), (1, 1))
            self.assertTrue(does_divide(0, powered_line(0, part, times), line))
            self.assertFalse(does_divide(0, powered_line(0, part, times + 1), line))
        return roots

    def test_roots_that_are_known(self):
        chance = chances(1)
        more = (None, ((2, 1), (0, 1), (3, 1)), ((-2, 1), (0, 1), (0, 1), (1, 1)), ((1, 2), (0, 1), (0, 1), (0, 1), (1, 3)))
        for turn in range(60):
            roots = [(chance.randint(-20, 20), chance.choice((1, 1, 1, 2, 3, 10))) for _ in range(turn % 7)]
            if turn % 3 == 0:
                roots += roots[:3]
            line = product_of(0, roots, more[turn % 4])
            self.assertEqual(self.check(line), told_roots(roots))
        self.assertEqual(self.check(product_of(0, [(k, 1) for k in range(16)])), told_roots([(k, 1) for k in range(16)]))
        self.assertEqual(self.check(product_of(0, [(k, 1) for k in (0, 0, 0, 210, 210, -2310)])), told_roots([(k, 1) for k in (0, 0, 0, 210, 210, -2310)]))
        self.assertEqual(self.check(product_of(0, [(1, k) for k in range(1, 7)])), told_roots([(1, k) for k in range(1, 7)]))
        self.assertEqual(self.check(((0, 1), (5, 7))), (((0, 1), 1),))
        self.assertEqual(self.check(((7, 2),)), ())

    def test_examples(self):
        line = ((-2, 1), (0, 1), (1, 1))
        self.assertEqual(roots_paper(0, line)[1:], (3, 2, ()))
        self.assertEqual(roots_paper(0, ((-1, 1), (2, 1)))[1:], (2, 3, (1,)))
        self.assertEqual(roots_paper(0, ((5, 1),)), (((5, 1), (), ((1, 1),), ()), 2, 3, ()))
        self.assertEqual(roots_of(5, (4, 0, 1)), ((1, 1), (4, 1)))

    def test_all_small_lines(self):
        for prime, many in ((2, 5), (3, 4), (5, 3), (7, 3)):
            for line in all_lines(prime, many)[1:]:
                found = []
                for root in range(prime):
                    times = 0
                    while does_divide(prime, powered_line(prime, (-root % prime, 1), times + 1), line):
                        times += 1
                    self.assertEqual(times > 0, line_at(prime, line, root) == 0)
                    if times:
                        found.append((root, times))
                self.assertEqual(roots_of(prime, line), tuple(found))
                self.assertEqual(roots_paper(prime, line), ())
                self.assertEqual(judged_roots(prime, line, ()), tuple(found))

    def test_whole_lines_by_trial(self):
        """All roots of lines of small integers are fractions of divisors of the first and the last number."""
        chance = chances(2)
        for _ in range(60):
            line = tuple((chance.randint(-6, 6), 1) for _ in range(chance.randint(1, 4))) + ((chance.randint(1, 6), 1),)
            tried = {Fraction(over, under) for over in range(-6, 7) for under in range(1, 7)}
            found = sorted(root for root in tried if sum(part[0] * root ** at for at, part in enumerate(line)) == 0)
            self.assertEqual([Fraction(*root) for root, _ in self.check(line)], found)

    def test_large_lines(self):
        chance = chances(5)
        self.assertEqual(roots_of(2, (1,) * 61), ())
        self.assertEqual(roots_of(9973, (9972,) + (0,) * 35 + (1,)), tuple((k, 1) for k in range(9973) if pow(k, 36, 9973) == 1))
        line = product_of(9973, [(k * k, 1) for k in range(1, 31)] * 2)
        self.assertEqual(roots_of(9973, line), tuple(sorted((k * k, 2) for k in range(1, 31))))
        roots = [(chance.randint(-10 ** 6, 10 ** 6), chance.randint(1, 10 ** 3)) for _ in range(8)]
        self.assertEqual(roots_of(0, product_of(0, roots)), told_roots(roots))
        great = tuple((chance.randint(-GREATEST, GREATEST), 1) for _ in range(17))
        self.assertEqual(roots_of(0, great), ())
        self.assertEqual(judged_roots(0, great, roots_paper(0, great)), ())
        line = ((-GREATEST + 1, 1), (GREATEST, 1))
        self.assertEqual(roots_of(0, line), (((GREATEST - 1, GREATEST), 1),))
        self.assertEqual(roots_of(0, ((0, 1),) * 16 + ((1, 1),)), (((0, 1), 16),))
        line = product_of(0, [(10 ** 40 + 1, 1), (10 ** 40 - 1, 3)])
        self.assertEqual(roots_of(0, line), told_roots([(10 ** 40 + 1, 1), (10 ** 40 - 1, 3)]))

    def test_papers_that_others_may_tell(self):
        for roots, more in (([(1, 1), (2, 1)], None), ([(1, 2), (-1, 3)], ((1, 1), (0, 1), (1, 1))), ([(3, 1), (3, 1)], ((-2, 1), (0, 1), (1, 1))), ([], ((5, 1),))):
            line = product_of(0, roots, more)
            _, whole = cleared(radical_line(0, line))
            for prime in primes(23):
                paper = paper_with(line, prime) if prime < 8 or len(whole) < 4 else None
                if paper is not None:
                    self.assertEqual(judged_roots(0, line, paper), told_roots(roots) if is_fit(prime, whole) else None)
        line = ((-2, 1), (-1, 1), (1, 1))
        inner, _, _, _ = roots_paper(0, line)
        for prime in (199999, 104729):
            exponent = 1
            self.assertEqual(judged_roots(0, line, (inner, prime, exponent, (2, prime - 1))), told_roots([(2, 1), (-1, 1)]))
            for lifts in ((), (2,), (prime - 1, 2), (2, 2), (2, prime - 1, prime), (2, -1), (2, prime + 2)):
                self.assertIsNone(judged_roots(0, line, (inner, prime, exponent, lifts)))
        for prime in (200003, 1, 0, -5, 4, 199997, True, 10 ** 100):
            self.assertIsNone(judged_roots(0, line, (inner, prime, 1, (2, 199996))))
        more = inner[:2] + (((-1, 9), (-2, 9)), ((1, 9),))
        self.assertFalse(is_squarefree_paper(0, line, more))
        self.assertIsNone(judged_roots(0, line, (more, 5, 2, (2, 24))))
        self.assertEqual(roots_paper(0, line)[1:], (2, 3, (2, 7)))
        self.assertEqual(judged_roots(0, line, (inner, 5, 2, (2, 24))), told_roots([(2, 1), (-1, 1)]))
        for prime, exponent, lifts in ((5, 1, (2, 4)), (5, 3, (2, 124)), (3, 2, (2, 8)), (2, 3, (2, 3)), (2, 3, (6, 7)), (2, 3, (7, 2)), (2, True, (2, 7))):
            self.assertIsNone(judged_roots(0, line, (inner, prime, exponent, lifts)))

    def test_spoilt_papers(self):
        for line in (((-1, 1), (2, 1)), ((-2, 1), (0, 1), (1, 1)), product_of(0, [(1, 2), (1, 2), (3, 1)]), ((5, 1), (0, 1), (0, 1), (5, 1))):
            paper = roots_paper(0, line)
            self.assertIsNotNone(judged_roots(0, line, paper))
            for spoilt in any_values() + [()]:
                self.assertIsNone(judged_roots(0, line, spoilt))
            for spoilt in changed(paper):
                self.assertIsNone(judged_roots(0, line, spoilt))
        for spoilt in any_values() + [((),), (0,), [()], roots_paper(0, ((1, 1),))]:
            self.assertIsNone(judged_roots(7, (1, 1), spoilt))
        self.assertEqual(judged_roots(7, (1, 1), ()), ((6, 1),))

    def test_unfit_fields(self):
        for field in FIELDS:
            if isinstance(field, tuple):
                for function in (roots_of, roots_paper):
                    self.refuses_all(UnfitField, function, (field,), any_values() + [()])
                self.refuses_all(UnfitField, judged_roots, (field,), any_values() + [()], (None,))

    def test_lines_of_too_high_a_degree(self):
        for many in (18, 61):
            line = ((1, 1),) * many
            for function, behind in ((roots_of, ()), (roots_paper, ()), (judged_roots, (None,))):
                with self.assertRaises(TooMany) as caught:
                    function(0, line, *behind)
                self.assertEqual(caught.exception.limit, 16)
        self.assertEqual(roots_of(0, ((1, 1),) * 17), ())
        self.assertEqual(roots_of(0, ((1, 1),) * 16), (((-1, 1), 1),))
        self.assertEqual(roots_of(5, (1,) * 61), ())

    def test_wrong_arguments(self):
        for field in (0, 5):
            wrong = [part for part in any_values() if not is_line(field, part)]
            for function in (roots_of, roots_paper):
                self.refuses_all(InvalidLine, function, (field,), wrong)
                self.refused(EmptyLine, function, field, ())
            self.refuses_all(InvalidLine, judged_roots, (field,), wrong, ((),))
            self.refused(EmptyLine, judged_roots, field, (), ())
        self.refused(InvalidLine, roots_of, 0, ((1, 1),) * 62)
        for function in (roots_of, roots_paper):
            self.refuses_fields(function, None)
        self.refuses_fields(judged_roots, None, None)

    def test_each_name_is_defined_here(self):
        for name in "roots_of roots_paper judged_roots".split():
            self.assertEqual(getattr(lineroots, name).__module__, "towerback.lineroots")


if __name__ == "__main__":
    unittest.main()
