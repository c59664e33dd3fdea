"""Points 15, 16 and 80: judges of papers of lines over a prime field."""

import unittest

from tests.support import Asks, any_values, chances, monic_lines, unsplit_lines
from tests.test_degreeparts import is_degree_paper
from tests.test_modfactors import NO_MONIC, WRONG, product_of
from tests.test_turns import NO_PRIMES, SIXTEEN
from towerback import modpapers
from towerback.degreeparts import degree_paper
from towerback.errors import InvalidField, InvalidLine, InvalidMonic, InvalidNumber
from towerback.lineways import does_divide, line_minus, line_times, rest_of_power
from towerback.modfactors import factors_mod, parts_paper, split_paper, unsplit_paper
from towerback.modlines import mod_plus, mod_scaled, mod_times
from towerback.modpapers import shows_degree, shows_parts, shows_split, shows_unsplit


def moved_paper(prime, line, degree, paper, by):
    """Return another degree paper: u plus a multiple of (turn - x), v less the same multiple of the line."""
    rows = []
    for q, u, v in paper:
        turn = line_minus(prime, rest_of_power(prime, (0, 1), prime ** (degree // q), line), (0, 1))
        other = mod_scaled(prime, mod_times(prime, by, line), prime - 1)
        rows.append((q, mod_plus(prime, u, mod_times(prime, by, turn)), mod_plus(prime, v, other)))
    return tuple(rows)


class ModPapers(Asks, unittest.TestCase):
    def test_degree_papers(self):
        for prime, most in ((2, 5), (3, 3), (5, 2)):
            unsplit = unsplit_lines(prime, most)
            for degree in range(1, most + 1):
                for line in monic_lines(prime, degree):
                    degrees = {len(part) - 1 for part in unsplit if does_divide(prime, part, line)}
                    for other in range(1, 8):
                        paper = degree_paper(prime, line, other)
                        if paper is None:
                            self.assertIs(shows_degree(prime, line, other, ()), False)
                            continue
                        self.assertEqual(degrees, {other})
                        self.assertIs(shows_degree(prime, line, other, paper), True)
                        self.assertIs(shows_unsplit(prime, line, paper), degree == other)
                        moved = moved_paper(prime, line, other, paper, (1, 1))
                        self.assertIs(shows_degree(prime, line, other, moved), True)
                        for value in ((prime,), [], None, paper + ((2, (), (1,)),), paper[1:] + (None,)):
                            self.assertIs(shows_degree(prime, line, other, value), False)

    def test_degree_papers_of_longer_lines(self):
        paper = degree_paper(2, SIXTEEN, 8)
        self.judges(shows_degree, (2, SIXTEEN, 8), paper)
        for by in ((1,), (0, 1, 1), (1,) * 900):
            self.assertIs(shows_degree(2, SIXTEEN, 8, moved_paper(2, SIXTEEN, 8, paper, by)), True)
        self.assertIs(shows_unsplit(2, SIXTEEN, paper), False)
        for degree in (1, 2, 4, 7, 9, 16):
            self.assertIs(shows_degree(2, SIXTEEN, degree, paper), False)
        six = (1, 0, 0, 1, 0, 0, 1)
        paper = unsplit_paper(2, six)
        self.assertEqual(len(paper), 2)
        self.judges(shows_unsplit, (2, six), paper)
        self.assertIs(shows_unsplit(2, six, paper[::-1]), False)
        self.assertIs(shows_unsplit(2, six, moved_paper(2, six, 6, paper, (0, 1))), True)
        self.judges(shows_unsplit, (9973, (9971, 0, 1)), unsplit_paper(9973, (9971, 0, 1)))

    def test_degrees_above_that_of_the_line(self):
        self.assertIs(shows_degree(7, (6, 0, 1), 1, ()), True)
        for degree in range(2, 17):
            self.assertIs(shows_degree(7, (3, 1), degree, ()), False)
            for value in any_values():
                self.assertIs(shows_degree(7, (3, 1), degree, value), False)
        # The turns agree for each multiple of the degree; but there is no paper.
        turn = line_minus(2, rest_of_power(2, (0, 1), 4, (1, 1, 1)), (0, 1))
        self.assertEqual(turn, ())
        self.assertIs(shows_degree(2, (1, 1, 1), 4, ((2, (), (1,)),)), False)

    def test_numbers_alone(self):
        self.assertIs(shows_unsplit(7, (3, 1), ()), True)
        self.assertIs(shows_unsplit(2, (1, 1, 1), ((2, (), (1,)),)), True)
        for value in (((True, (), (1,)),), ((2, [], (1,)),), ((2, (), (True,)),), ((2, (), (1, 0)),), ((3, (), (1,)),), [(2, (), (1,))]):
            self.assertIs(shows_unsplit(2, (1, 1, 1), value), False)
        self.assertIs(shows_unsplit(2, (1, 0, 1), ()), False)
        self.assertIs(shows_unsplit(2, (1, 0, 1), ((2, (1,), (0, 1)),)), False)

    def test_split_papers(self):
        for prime, degree in ((2, 4), (3, 3), (5, 2)):
            known = [line for least in range(1, degree) for line in monic_lines(prime, least)]
            for line in monic_lines(prime, degree):
                taken = 0
                for one in known:
                    for other in known:
                        found = shows_split(prime, line, (one, other))
                        self.assertIs(found, line_times(prime, one, other) == line)
                        taken += found
                paper = split_paper(prime, line)
                self.assertEqual(taken == 0, paper is None)
                if paper is not None:
                    self.judges(shows_split, (prime, line), paper)
        line = line_times(5, (1, 1), (4, 0, 1))
        self.assertIs(shows_split(5, line, ((4, 0, 1), (1, 1))), True)
        # A product of lines that are not monic, or have no degree, shows nothing.
        self.assertIs(shows_split(5, line, ((2, 2), (2, 0, 3))), False)
        self.assertIs(shows_split(5, line, ((1,), line)), False)
        self.assertIs(shows_split(5, (3, 1), ((1,), (3, 1))), False)

    def test_parts_papers(self):
        chance = chances(80)
        for prime in (2, 3, 97, 9973):
            for _ in range(6):
                line = tuple(chance.randrange(prime) for _ in range(5)) + (chance.randrange(1, prime),)
                line = line_times(prime, line, line_times(prime, (1, 1), (1, 1)))
                self.judges(shows_parts, (prime, line), parts_paper(prime, line))
        for line in ((0,) * 16 + (1,), (1,) + (0,) * 15 + (1,)):
            paper = parts_paper(2, line)
            self.assertEqual(paper[1][0][1], 16)
            self.judges(shows_parts, (2, line), paper)
        self.judges(shows_parts, (7, (3,)), (3, ()))
        self.judges(shows_parts, (2, SIXTEEN), parts_paper(2, SIXTEEN))

    def test_parts_papers_that_show_nothing(self):
        line = product_of(5, [(1, 1), (1, 1), (2, 1), (2, 0, 1)])
        number, rows = parts_paper(5, line)
        self.assertEqual([row[:2] for row in rows], list(factors_mod(5, line)[1]))
        self.assertIs(shows_parts(5, line, (number, rows)), True)
        self.assertIs(shows_parts(5, line, (number, rows[::-1])), False)
        self.assertIs(shows_parts(5, line, (number, rows + rows[-1:])), False)
        twice = ((rows[0][0], 1, ()), (rows[0][0], 1, ())) + rows[1:]
        self.assertIs(shows_parts(5, line, (number, twice)), False)
        product = (line_times(5, (1, 1), (2, 1)), 1, ())
        self.assertIs(shows_parts(5, line, (number, tuple(sorted((((1, 1), 1, ()), product, rows[-1]))))), False)
        other = tuple((part, times, moved_paper(5, part, len(part) - 1, paper, (3, 1))) for part, times, paper in rows)
        self.assertIs(shows_parts(5, line, (number, other)), True)
        self.assertIs(shows_parts(2, (0, 0, 1), (1, (((0, 0, 1), 1, ()),))), False)
        many = (((0, 1), 16, ()), ((1, 1), 16, ()))
        self.assertIs(shows_parts(2, (0, 1, 1), (1, many)), False)
        self.assertIs(shows_parts(2, (0,) * 16 + (1,), (1, (((0, 1), 17, ()),))), False)

    def test_wrong_arguments(self):
        for value in any_values() + NO_PRIMES:
            self.refused(InvalidField, shows_degree, value, None, None, None)
            for function in (shows_unsplit, shows_split, shows_parts):
                self.refused(InvalidField, function, value, None, None)
        self.refuses_all(InvalidLine, shows_degree, (5,), WRONG, (None, None))
        self.refuses_all(InvalidMonic, shows_degree, (5,), NO_MONIC, (0, None))
        self.refuses_all(InvalidNumber, shows_degree, (5, (1, 1)), any_values() + [0, 17, -1], (None,))
        for function in (shows_unsplit, shows_split):
            self.refuses_all(InvalidLine, function, (5,), WRONG, (None,))
            self.refuses_all(InvalidMonic, function, (5,), NO_MONIC, (None,))
        self.refuses_all(InvalidLine, shows_parts, (5,), WRONG + [()], (None,))

    def test_papers_are_as_the_document_tells(self):
        for prime, line in ((3, (1, 0, 1)), (2, (1, 1, 0, 0, 1)), (97, (5, 0, 0, 1))):
            paper = unsplit_paper(prime, line)
            if paper is not None:
                self.assertTrue(is_degree_paper(prime, line, len(line) - 1, paper))
                self.judges(shows_unsplit, (prime, line), paper)

    def test_each_name_is_defined_here(self):
        for name in "shows_degree shows_unsplit shows_split shows_parts".split():
            self.assertEqual(getattr(modpapers, name).__module__, "towerback.modpapers")


if __name__ == "__main__":
    unittest.main()
