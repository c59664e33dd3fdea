"""Points 22 and 86: judges of papers of whole lines."""

import unittest

from tests.support import GREATEST, Asks, any_values, changed, chances
from tests.test_lifts import NOT_PRIMITIVE
from tests.test_modpapers import moved_paper
from tests.test_wholefactors import UNSPLIT
from tests.wholes_by_trial import no_wholes, product_of
from towerback import wholepapers
from towerback.errors import InvalidWhole
from towerback.lifts import is_good_prime, lift_of, lifted_parts, mod_parts
from towerback.lots import least_power
from towerback.modfactors import unsplit_paper
from towerback.wholefactors import whole_paper, whole_split
from towerback.wholepapers import shows_unsplit_whole, shows_whole_split


def paper_for(line, prime, power):
    """Return the paper of a line for a prime and a power, whether it shows anything or not."""
    parts = mod_parts(line, prime)
    return "lots", prime, power, lift_of(line, prime, parts, power), tuple(unsplit_paper(prime, part) for part in parts)


class WholePapers(Asks, unittest.TestCase):
    def test_papers_of_lines_that_can_not_be_split(self):
        for line in UNSPLIT:
            paper = whole_paper(line)
            # A line that can't be split mod the prime is its own lift to many powers: there other powers go, too.
            self.judges(shows_unsplit_whole, (line,), paper, len(line) < 8 and (len(line) == 2 or len(paper[3]) > 1))
            self.assertIs(shows_unsplit_whole(tuple(-number for number in line), paper), False)
            self.assertIs(shows_unsplit_whole(product_of([line], 2), paper), False)

    def test_any_prime_and_any_power(self):
        """Papers with other primes and powers are taken, from just above the limit on."""
        for line in UNSPLIT:
            if len(line) == 2:
                continue
            for prime in (2, 3, 5, 7, 13, 97, 9973):
                if not is_good_prime(line, prime):
                    continue
                least = least_power(line, prime)
                for power in (least, least + 1, least + 7, 300):
                    self.assertIs(shows_unsplit_whole(line, paper_for(line, prime, power)), True, (line, prime, power))
                if least > 1:
                    self.assertIs(shows_unsplit_whole(line, paper_for(line, prime, least - 1)), False)
                paper = paper_for(line, prime, least)
                moved = tuple(moved_paper(prime, part, len(part) - 1, other, (1, 1)) for part, other in zip(mod_parts(line, prime), paper[4]))
                self.assertIs(shows_unsplit_whole(line, paper[:4] + (moved,)), True)
        for power in (2001, 10 ** 4):
            self.assertIs(shows_unsplit_whole((1, 0, 0, 0, 1), paper_for((1, 0, 0, 0, 1), 17, power)), True)
        self.assertIs(shows_unsplit_whole((1, 0, 0, 0, 1), paper_for((1, 0, 0, 0, 1), 17, 10 ** 4 + 1)), False)

    def test_papers_of_lines_that_can_be_split(self):
        for line in ((1, 5, 6), (-4, 0, 1), (2, 0, 3, 0, 1), product_of([(1, 1, 1), (3, 1, 0, 2)]), product_of([(k, 1) for k in range(1, 7)])):
            for prime in (5, 7, 11, 13, 97):
                if is_good_prime(line, prime):
                    for power in (1, 2, least_power(line, prime), 50):
                        self.assertIs(shows_unsplit_whole(line, paper_for(line, prime, power)), False)
            self.assertIs(shows_unsplit_whole(line, ("first",)), False)
            for value in any_values():
                self.assertIs(shows_unsplit_whole(line, value), False)

    def test_degree_one(self):
        self.judges(shows_unsplit_whole, ((1, 2),), ("first",))
        self.judges(shows_unsplit_whole, ((GREATEST, GREATEST - 1),), ("first",))
        self.assertIs(shows_unsplit_whole((1, 2), paper_for((1, 2), 5, 3)), False)
        self.assertIs(shows_unsplit_whole((1, 0, 1), ("first",)), False)
        self.assertIs(shows_unsplit_whole((1, 2), ["first"]), False)

    def test_lines_that_are_not_primitive(self):
        for line in NOT_PRIMITIVE:
            if line:
                for value in any_values() + [("first",)]:
                    self.assertIs(shows_unsplit_whole(line, value), False)

    def test_splittings(self):
        chance = chances(88)
        for _ in range(30):
            chosen = []
            for part in chance.choices(UNSPLIT, k=4):
                if sum(len(other) - 1 for other in chosen) + len(part) - 1 <= 12:
                    chosen.append(part)
            line = product_of(chosen, chance.choice((1, -1, 6)))
            paper = whole_split(line)
            self.judges(shows_whole_split, (line,), paper, all(row[2] == ("first",) for row in paper[1]))
            content, rows = paper
            other = []
            for part, times, known in rows:
                if known[0] == "lots":
                    known = paper_for(part, known[1], known[2] + 3)
                other.append((part, times, known))
            self.assertIs(shows_whole_split(line, (content, tuple(other))), True)
            self.assertIs(shows_whole_split(line, (-content, rows)), False)
            if len(rows) > 1:
                self.assertIs(shows_whole_split(line, (content, rows[::-1])), False)
            self.assertIs(shows_whole_split(line, (content, rows[1:])), False)
            self.assertIs(shows_whole_split(line, (content, rows + rows[:1])), False)

    def test_splittings_that_show_nothing(self):
        self.judges(shows_whole_split, ((-6,),), (-6, ()))
        self.assertIs(shows_whole_split((-6,), (6, ())), False)
        first = ("first",)
        line = product_of([(1, 2), (1, 2), (3, 1)], 5)
        rows = (((1, 2), 2, first), ((3, 1), 1, first))
        self.judges(shows_whole_split, (line,), (5, rows))
        self.assertIs(shows_whole_split(line, (5, (((1, 2), 1, first), ((1, 2), 1, first), ((3, 1), 1, first)))), False)
        # The product would be right, too, with these.
        self.assertIs(shows_whole_split(line, (-5, (((-3, -1), 1, first), ((1, 2), 2, first)))), False)
        self.assertIs(shows_whole_split((2, 4), (1, (((2, 4), 1, first),))), False)
        product = product_of([(1, 2), (3, 1)])
        for paper in (first, paper_for(product, 7, 40), None):
            self.assertIs(shows_whole_split(product, (1, ((product, 1, paper),))), False)
        self.assertIs(shows_whole_split((0, 0, 1), (1, (((0, 1), 2, first),))), True)
        self.assertIs(shows_whole_split((0, 0, 1), (1, (((0, 1), 10 ** 119, first),))), False)
        self.assertIs(shows_whole_split((0, 1), (1, (((0, 1), True, first),))), False)
        self.assertIs(shows_whole_split((1, 2), (1, (((1, 2) + (0,) * 998, 1, first),))), False)

    def test_spoilt_papers_of_a_lift(self):
        line = (1, 0, -10, 0, 1)
        paper = whole_paper(line)
        for value in changed(paper):
            self.assertIs(shows_unsplit_whole(line, value), False)
        self.assertIs(shows_unsplit_whole(line, paper[:3] + (paper[3][::-1], paper[4][::-1])), False)
        great = tuple((part[0] + paper[1] ** paper[2],) + part[1:] for part in paper[3])
        self.assertIs(shows_unsplit_whole(line, paper[:3] + (great,) + paper[4:]), False)
        self.assertIs(shows_unsplit_whole(line, ("lots", 4) + paper[2:]), False)
        self.assertIs(shows_unsplit_whole(line, ("lots", 2) + paper[2:]), False)

    def test_wrong_arguments(self):
        for function in (shows_unsplit_whole, shows_whole_split):
            self.refuses_all(InvalidWhole, function, (), no_wholes() + [()], (None,))
        self.assertEqual(len(lifted_parts((1, 0, -10, 0, 1), 7, 3)), 2)

    def test_each_name_is_defined_here(self):
        for name in "shows_unsplit_whole shows_whole_split".split():
            self.assertEqual(getattr(wholepapers, name).__module__, "towerback.wholepapers")


if __name__ == "__main__":
    unittest.main()
