"""Point 79: monic lines that can not be split, in order."""

import unittest

from tests.support import Asks, any_values, chances, unsplit_lines
from tests.test_modfactors import NO_MONIC, WRONG
from tests.test_turns import NO_PRIMES
from towerback import unsplitlines
from towerback.errors import InvalidField, InvalidLine, InvalidMonic, InvalidNumber
from towerback.modfactors import is_unsplit
from towerback.unsplitlines import count_unsplit, first_unsplit, next_unsplit


def back_to_front(line):
    """Return the numbers of a line from the last one back to the first one."""
    return tuple(reversed(line))


class UnsplitLines(Asks, unittest.TestCase):
    def test_all_small_lines(self):
        """The lines told, one after the other, are all that are found by trying."""
        for prime, most in ((2, 8), (3, 5), (5, 3), (7, 3), (11, 2), (13, 2)):
            known = unsplit_lines(prime, most)
            for degree in range(1, most + 1):
                wished = sorted((line for line in known if len(line) == degree + 1), key=back_to_front)
                self.assertEqual(count_unsplit(prime, degree), len(wished))
                self.assertEqual(first_unsplit(prime, degree), wished[0])
                for line, behind in zip(wished, wished[1:] + [None]):
                    self.assertEqual(next_unsplit(prime, line), behind)

    def test_behind_lines_that_can_be_split(self):
        for prime, degree in ((2, 5), (3, 3), (5, 2)):
            wished = [line for line in unsplit_lines(prime, degree) if len(line) == degree + 1]
            for at in range(prime ** degree):
                line = tuple(at // prime ** k % prime for k in range(degree)) + (1,)
                behind = [other for other in wished if back_to_front(other) > back_to_front(line)]
                self.assertEqual(next_unsplit(prime, line), min(behind, key=back_to_front, default=None))

    def test_great_primes(self):
        for prime in (9973, 9967, 9949, 101):
            for degree in range(1, 9):
                line = first_unsplit(prime, degree)
                self.assertTrue(is_unsplit(prime, line))
                ahead = [(number,) + line[1:] for number in range(line[0])][-60:]
                self.assertFalse(any(is_unsplit(prime, other) for other in ahead))
                behind = next_unsplit(prime, line)
                if degree > 1 and behind[1:] == line[1:]:
                    between = [(number,) + line[1:] for number in range(line[0] + 1, behind[0])]
                    self.assertFalse(any(is_unsplit(prime, other) for other in between))
                self.assertTrue(is_unsplit(prime, behind))
                self.assertIsNone(next_unsplit(prime, (prime - 1,) * degree + (1,)))
        self.assertEqual(first_unsplit(9973, 1), (0, 1))
        self.assertEqual(next_unsplit(9973, (0, 1)), (1, 1))
        self.assertIsNone(next_unsplit(9973, (9972, 1)))

    def test_blocks_of_powers(self):
        """Powers of (s, 1), but for their first numbers: all first numbers are tried, whether they go or not."""
        for prime in (5, 7, 13, 17, 29, 31):
            for degree in range(2, 9):
                for shift in (0, 1, 3):
                    line = (1,)
                    for _ in range(degree):
                        line = tuple((a + shift * b) % prime for a, b in zip((0,) + line, line + (0,)))
                    block = line[1:]
                    told, at = [], (0,) + block
                    if is_unsplit(prime, at):
                        told.append(0)
                    while True:
                        at = next_unsplit(prime, at)
                        if at is None or at[1:] != block:
                            break
                        told.append(at[0])
                    self.assertEqual(told, [k for k in range(prime) if is_unsplit(prime, (k,) + block)], (prime, degree, shift))
        self.assertEqual(next_unsplit(9967, (0,) * 8 + (1,)), first_unsplit(9967, 8))

    def test_counts(self):
        for prime in (2, 3, 97, 9973):
            counts = {degree: count_unsplit(prime, degree) for degree in range(1, 17)}
            for degree in range(1, 17):
                # All degrees of lines that can't be split, which divide n, come to p ** n.
                total = sum(other * counts[other] for other in counts if degree % other == 0)
                self.assertEqual(total, prime ** degree)
        self.assertEqual(count_unsplit(97, 2), 4656)
        self.assertEqual(count_unsplit(2, 16), 4080)

    def test_chosen_lines(self):
        chance = chances(79)
        for prime in (2, 3, 7, 97):
            for degree in (4, 6, 8):
                line = tuple(chance.randrange(prime) for _ in range(degree)) + (1,)
                behind = next_unsplit(prime, line)
                if behind is not None:
                    self.assertTrue(is_unsplit(prime, behind))
                    self.assertGreater(back_to_front(behind), back_to_front(line))

    def test_wrong_arguments(self):
        for value in any_values() + NO_PRIMES:
            self.refused(InvalidField, first_unsplit, value, None)
            self.refused(InvalidField, next_unsplit, value, None)
            self.refused(InvalidField, count_unsplit, value, 2)
        self.refuses_all(InvalidNumber, first_unsplit, (5,), any_values() + [0, 9, -1])
        self.refuses_all(InvalidNumber, count_unsplit, (5,), any_values() + [0, 17, -1])
        self.refuses_all(InvalidLine, next_unsplit, (5,), WRONG)
        self.refuses_all(InvalidMonic, next_unsplit, (5,), NO_MONIC + [(1,) * 9 + (2,), (1,) * 16 + (3,)])
        self.refuses_all(InvalidLine, next_unsplit, (5,), [(1,) * 10, (1,) * 17, (0,) * 9 + (1,)])
        self.assertEqual(len(first_unsplit(5, 8)), 9)
        self.assertIsNotNone(next_unsplit(5, (1,) * 9))

    def test_each_name_is_defined_here(self):
        for name in "first_unsplit next_unsplit count_unsplit".split():
            self.assertEqual(getattr(unsplitlines, name).__module__, "towerback.unsplitlines")


if __name__ == "__main__":
    unittest.main()
