"""Points 22 and 85: whole lines split into lines that can't be split."""

import itertools
import math
import unittest
from fractions import Fraction

from tests.support import GREATEST, Asks, any_values, chances
from tests.test_divisorbounds import plain_bound
from tests.test_lifts import NOT_PRIMITIVE, is_plainly_good
from tests.test_lots import plain_line, plain_lots
from tests.wholes_by_trial import does_divide, no_wholes, plain_divisors, product_of
from towerback import wholefactors
from towerback.errors import InvalidLine, InvalidWhole
from towerback.fieldways import is_line
from towerback.lifts import is_lift, mod_parts
from towerback.modpapers import shows_unsplit
from towerback.wholefactors import is_unsplit_whole, rational_split, whole_paper, whole_split

# Lines that can't be split, though most of them can be mod each prime.
UNSPLIT = [
    (0, 1), (1, 2), (-7, 3), (1, 0, 1), (-2, 0, 1), (5, 1, 3), (1, 0, 0, 0, 1), (1, 0, -10, 0, 1), (2, 0, 0, 3), (-1, -1, 0, 1),
    (576, 0, -960, 0, 352, 0, -40, 0, 1), (1, 0, 0, 0, -1, 0, 0, 0, 1), (1, 1, 1, 1, 1), (9, 0, -4, 0, 2), (-5, 0, 0, 0, 0, 0, 7),
    (1, -1, 0, 1, -1, 0, 1, 0, -1, 1, 0, -1, 1), (1, 0, 0, 0, 0, 0, -1, 0, 0, 0, 0, 0, 1),
]


class WholeFactors(Asks, unittest.TestCase):
    def check_paper(self, line, paper):
        """Ask that a paper shows that a line can't be split, word by word."""
        if len(line) == 2:
            self.assertEqual(paper, ("first",))
            return
        word, prime, power, lift, papers = paper
        self.assertEqual((word, is_plainly_good(line, prime)), ("lots", True))
        self.assertGreater(prime ** power, 2 * plain_bound(line) * line[-1])
        self.assertTrue(power > 2000 or is_lift(line, prime, power, lift))
        parts = mod_parts(line, prime)
        self.assertEqual(len(parts), len(papers))
        for part, other in zip(parts, papers):
            self.assertTrue(shows_unsplit(prime, part, other))
        for lot in plain_lots(line, lift):
            self.assertFalse(does_divide(plain_line(line, prime ** power, lift, lot), line))

    def check(self, line, content, rows):
        """Ask that a line has just this splitting, given its content and rows without papers."""
        found = whole_split(line)
        self.assertEqual((found[0], tuple(row[:2] for row in found[1])), (content, rows))
        for part, _, paper in found[1]:
            self.check_paper(part, paper)

    def test_lines_that_can_not_be_split(self):
        for line in UNSPLIT:
            self.assertIs(is_unsplit_whole(line), True)
            self.check_paper(line, whole_paper(line))
            self.check(line, 1, ((line, 1),))
            self.check(product_of([line], -6), -6, ((line, 1),))

    def test_all_small_lines(self):
        """Lines can be split if and only if a line of at most half the degree is found that divides them."""
        for many, numbers in ((2, range(-4, 5)), (3, range(-3, 4)), (4, (-1, 0, 2)), (5, (-1, 0, 1))):
            for line in itertools.product(numbers, repeat=many):
                for last in (1, 2, 6):
                    told = line + (last,)
                    if math.gcd(*told) == 1 and (many < 4 or told[0]):
                        split = any(plain_divisors(told, degree) for degree in range(1, many // 2 + 1))
                        self.assertIs(is_unsplit_whole(told), not split)
                        self.assertEqual(whole_paper(told) is None, split)

    def test_products(self):
        """A product of lines known not to be split is split into just these."""
        chance = chances(85)
        for _ in range(120):
            chosen = []
            for part in chance.choices(UNSPLIT, k=6):
                for _ in range(chance.choice((1, 1, 2, 3))):
                    if sum(len(other) - 1 for other in chosen) + len(part) - 1 <= 12:
                        chosen.append(part)
            number = chance.choice((1, -1, 4, -15))
            rows = tuple((part, chosen.count(part)) for part in sorted(set(chosen)))
            self.check(product_of(chosen, number), number, rows)

    def test_great_numbers(self):
        chance = chances(86)
        line = tuple(chance.randint(-GREATEST, GREATEST) for _ in range(13))
        content, rows = whole_split(line)
        self.assertEqual(product_of([part for part, times, _ in rows for _ in range(times)], content), line)
        for many, most in ((12, 10 ** 7), (6, 10 ** 15), (4, 10 ** 22), (2, 10 ** 46)):
            chosen = []
            while len(chosen) < many:
                part = tuple(chance.randint(-most, most) for _ in range(12 // many)) + (chance.randint(1, most),)
                part = tuple(number // math.gcd(*part) for number in part)
                if is_unsplit_whole(part):
                    chosen.append(part)
            self.check(product_of(chosen), 1, tuple((part, 1) for part in sorted(chosen)))
        part = (-GREATEST + 1, GREATEST)
        self.check(part, 1, ((part, 1),))
        self.check((0,) * 11 + part, 1, tuple(sorted((((0, 1), 11), (part, 1)))))
        self.check((0,) * 12 + (-GREATEST,), -GREATEST, (((0, 1), 12),))
        self.check((0,) * 12 + (1,), 1, (((0, 1), 12),))

    def test_edges(self):
        self.assertEqual(whole_split((-6,)), (-6, ()))
        self.assertEqual(whole_split((3, 6)), (3, (((1, 2), 1, ("first",)),)))
        self.check((-4, 0, 8, 0, -4), -4, (((-1, 1), 2), ((1, 1), 2)))
        self.check(product_of([(k, 1) for k in range(1, 13)]), 1, tuple(((k, 1), 1) for k in range(1, 13)))
        self.check((-1,) + (0,) * 11 + (1,), 1, (((-1, 1), 1), ((1, -1, 1), 1), ((1, 0, -1, 0, 1), 1), ((1, 0, 1), 1), ((1, 1), 1), ((1, 1, 1), 1)))
        for line in ((1, 2, 1), (0, 0, 1), (0, 1, 1), product_of([(1, 0, 1)] * 6), product_of([(1, 0, 1), (1, 1)])):
            self.assertIs(is_unsplit_whole(line), False)
            self.assertIsNone(whole_paper(line))
        self.assertEqual(whole_paper((0, 1)), ("first",))

    def test_lines_over_the_fractions(self):
        self.assertEqual(rational_split(((1, 2), (1, 1))), ((1, 2), (((1, 2), 1, ("first",)),)))
        self.assertEqual(rational_split(((-5, 7),)), ((-5, 7), ()))
        chance = chances(87)
        for _ in range(40):
            numbers = [Fraction(1)]
            for _ in range(chance.randint(1, 5)):
                root = Fraction(chance.randint(-6, 6), chance.randint(1, 5))
                numbers = [a - root * b for a, b in zip([Fraction(0)] + numbers, numbers + [Fraction(0)])]
            scale = Fraction(chance.choice((-3, 1, 2)), chance.choice((1, 4, 9)))
            line = tuple(((part * scale).numerator, (part * scale).denominator) for part in numbers)
            number, rows = rational_split(line)
            whole = product_of([part for part, times, _ in rows for _ in range(times)])
            self.assertEqual([Fraction(*number) * part for part in whole], [Fraction(*part) for part in line])
            for part, _, paper in rows:
                self.check_paper(part, paper)
            self.assertEqual([row[0] for row in rows], sorted({row[0] for row in rows}))
        # The whole line is as great as can be handed in, or greater.
        self.assertEqual(rational_split(((1, GREATEST), (1, 1)))[1], (((1, GREATEST), 1, ("first",)),))
        self.assertEqual(rational_split(((GREATEST, 1), (0, 1), (GREATEST, 3)))[1][0][:2], ((3, 0, 1), 1))

    def test_wrong_arguments(self):
        self.refuses_all(InvalidWhole, whole_split, (), no_wholes() + [()])
        for function in (is_unsplit_whole, whole_paper):
            self.refuses_all(InvalidWhole, function, (), no_wholes() + NOT_PRIMITIVE)
        lines = [value for value in any_values() if not is_line(0, value)] + [(), ((0, 1),), ((2, 2),), (1, 2), ((1, 1),) * 14, ((1, 1),) * 61]
        lines += [((1, GREATEST), (1, 3), (1, 7)), ((1, 1), (1, GREATEST), (1, GREATEST - 1))]
        self.refuses_all(InvalidLine, rational_split, (), lines)
        self.assertEqual(rational_split(((1, 1),) * 13)[0], (1, 1))

    def test_each_name_is_defined_here(self):
        for name in "whole_split rational_split is_unsplit_whole whole_paper".split():
            self.assertEqual(getattr(wholefactors, name).__module__, "towerback.wholefactors")


if __name__ == "__main__":
    unittest.main()
