"""Points 15 and 77: parts of one degree."""

import unittest

from tests.support import Asks, any_values, chances, monic_lines, unsplit_lines
from tests.test_linegcd import mixed
from tests.test_turns import NO_PRIMES, SIXTEEN
from towerback import degreeparts
from towerback.degreeparts import degree_paper, degree_parts
from towerback.errors import InvalidField, InvalidLine, InvalidMonic, InvalidNumber, NotSquareFree
from towerback.fieldways import is_line
from towerback.lineways import common_line, does_divide, line_minus, line_times, rest_of_power, slope_of


def is_degree_paper(prime, line, degree, value):
    """Tell whether a tuple is a degree paper, as the document tells it."""
    turns = [rest_of_power(prime, (0, 1), prime ** k, line) for k in range(degree + 1)]
    if turns[degree] != turns[0]:
        return False
    factors = [q for q in range(2, degree + 1) if degree % q == 0 and all(q % d for d in range(2, q))]
    if [row[0] for row in value] != factors:
        return False
    return all(mixed(prime, u, line, v, line_minus(prime, turns[degree // q], (0, 1))) == (1,) for q, u, v in value)


class DegreeParts(Asks, unittest.TestCase):
    def test_all_small_lines(self):
        """The parts are those found by trying all lines that can't be split."""
        for prime, most in ((2, 6), (3, 4), (5, 2)):
            unsplit = unsplit_lines(prime, most)
            for degree in range(1, most + 1):
                for line in monic_lines(prime, degree):
                    parts = [part for part in unsplit if does_divide(prime, part, line)]
                    square_free = len(common_line(prime, line, slope_of(prime, line))) == 1
                    if square_free:
                        self.assertEqual(degree_parts(prime, line), products(prime, parts))
                    else:
                        self.refused(NotSquareFree, degree_parts, prime, line)
                    degrees = {len(part) - 1 for part in parts}
                    for other in range(1, 8):
                        paper = degree_paper(prime, line, other)
                        self.assertEqual(paper is not None, square_free and degrees == {other})
                        if paper is not None:
                            self.assertTrue(is_degree_paper(prime, line, other, paper))

    def test_longer_lines(self):
        chance = chances(3)
        for prime in (2, 3, 97, 9973):
            for _ in range(4):
                line = tuple(chance.randrange(prime) for _ in range(16)) + (1,)
                if len(common_line(prime, line, slope_of(prime, line))) > 1:
                    self.refused(NotSquareFree, degree_parts, prime, line)
                    continue
                found, product = degree_parts(prime, line), (1,)
                for degree, part in found:
                    product = line_times(prime, product, part)
                    paper = degree_paper(prime, part, degree)
                    self.assertTrue(is_degree_paper(prime, part, degree, paper))
                    self.assertEqual((len(part) - 1) % degree, 0)
                self.assertEqual(product, line)
                self.assertEqual([degree for degree, _ in found], sorted({degree for degree, _ in found}))
        self.assertEqual(degree_parts(2, SIXTEEN), ((8, SIXTEEN),))
        self.assertTrue(is_degree_paper(2, SIXTEEN, 8, degree_paper(2, SIXTEEN, 8)))
        self.assertIsNone(degree_paper(2, SIXTEEN, 16))
        self.assertIsNone(degree_paper(2, SIXTEEN, 4))
        self.assertEqual(degree_parts(17, (16,) + (0,) * 15 + (1,)), ((1, (16,) + (0,) * 15 + (1,)),))
        self.assertEqual(degree_parts(9973, (7, 1)), ((1, (7, 1)),))

    def test_degrees_above_that_of_the_line(self):
        self.assertEqual(degree_paper(5, (3, 1), 1), ())
        for degree in range(2, 17):
            self.assertIsNone(degree_paper(5, (3, 1), degree))
        for degree in range(3, 17):
            self.assertIsNone(degree_paper(2, (1, 1, 1), degree))
        self.assertTrue(is_degree_paper(2, (1, 1, 1), 2, degree_paper(2, (1, 1, 1), 2)))
        self.assertIsNone(degree_paper(2, (1, 1, 1), 1))
        paper = degree_paper(2, (1, 0, 0, 1, 0, 0, 1), 6)
        self.assertEqual([row[0] for row in paper], [2, 3])
        self.assertTrue(is_degree_paper(2, (1, 0, 0, 1, 0, 0, 1), 6, paper))

    def test_lines_that_are_not_square_free(self):
        for prime, line in ((2, (1, 0, 1)), (3, (0, 0, 1)), (5, (1, 0, 0, 0, 0, 1)), (7, line_times(7, (1, 1), (1, 2, 1)))):
            self.refused(NotSquareFree, degree_parts, prime, line)
            for degree in range(1, 17):
                self.assertIsNone(degree_paper(prime, line, degree))

    def test_wrong_arguments(self):
        for value in any_values() + NO_PRIMES:
            self.refused(InvalidField, degree_parts, value, None)
            self.refused(InvalidField, degree_paper, value, (1, 1), None)
        wrong = [value for value in any_values() if not is_line(5, value)] + [(1,) * 18, (1,) * 61, (1, 5), (1, 0), [1, 1]]
        no_monic = [(), (1,), (3,), (1, 2), (1, 0, 3), (0, 0, 2)]
        self.refuses_all(InvalidLine, degree_parts, (5,), wrong)
        self.refuses_all(InvalidMonic, degree_parts, (5,), no_monic)
        self.refuses_all(InvalidLine, degree_paper, (5,), wrong, (None,))
        self.refuses_all(InvalidMonic, degree_paper, (5,), no_monic, (0,))
        self.refuses_all(InvalidNumber, degree_paper, (5, (1, 1)), any_values() + [0, -1, 17])
        self.assertIsNone(degree_paper(5, (1, 1), 16))

    def test_each_name_is_defined_here(self):
        for name in "degree_parts degree_paper".split():
            self.assertEqual(getattr(degreeparts, name).__module__, "towerback.degreeparts")


def products(prime, parts):
    """Return the pairs (degree, product of all parts of this degree), ascending."""
    found = {}
    for part in parts:
        found[len(part) - 1] = line_times(prime, found.get(len(part) - 1, (1,)), part)
    return tuple(sorted(found.items()))


if __name__ == "__main__":
    unittest.main()
