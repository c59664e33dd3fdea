"""Points 13, 71 and 72: partial fractions."""

import itertools
import unittest

from tests.support import FIELDS, GREATEST, R, SPLITS, X, Asks, all_lines, any_values, chances, random_line
from tests.test_linegcd import ONE, mixed
from towerback import partials as partials_file
from towerback.errors import ByNought, InvalidBase, InvalidLine, InvalidParts, TooMany
from towerback.fieldways import is_line, number_of
from towerback.linegcd import common_paper, is_common_paper
from towerback.lineways import common_line, line_plus, line_times, monic_line
from towerback.partials import digits_of, is_partials, is_partials_paper, partials, partials_paper, split_two
from towerback.rawways import lines_plus, lines_times

PARTS = (((0, 1), 2), ((1, 1), 3), ((2, 0, 1), 1))


def above_parts(field, parts, whole, rows):
    """Return the line that stands above the product of all parts, by products and sums alone."""
    def product(skipped, less):
        found = (number_of(field, 1, 1),)
        for at, (part, times) in enumerate(parts):
            for _ in range(times - less if at == skipped else times):
                found = lines_times(field, found, part)
        return found

    total = lines_times(field, whole, product(-1, 0))
    for at, row in enumerate(rows):
        for k, line in enumerate(row):
            total = lines_plus(field, total, lines_times(field, line, product(at, k + 1)))
    return total


class Partials(Asks, unittest.TestCase):
    def check(self, field, over, parts):
        """Ask that the partial fractions, and their paper, are as told; return them."""
        found, paper = partials(field, over, parts), partials_paper(field, over, parts)
        self.assertIs(is_partials_paper(field, over, parts, paper), True)
        pairs = list(itertools.combinations(range(len(parts)), 2))
        one = (number_of(field, 1, 1),)
        if found is None:
            word, i, j, inner = paper
            self.assertEqual((word, i < j), ("common", True))
            self.assertIs(is_common_paper(field, parts[i][0], parts[j][0], inner), True)
            self.assertGreater(len(inner[0]), 1)
            return None
        self.assertTrue(all(common_line(field, parts[i][0], parts[j][0]) == one for i, j in pairs))
        whole, rows = found
        self.assertEqual(len(rows), len(parts))
        for row, (part, times) in zip(rows, parts):
            self.assertEqual(len(row), times)
            self.assertTrue(all(len(line) < len(part) for line in row))
        self.assertEqual(above_parts(field, parts, whole, rows), over)
        self.assertIs(is_partials(field, over, parts, found), True)
        self.assertEqual(paper[:3], ("fractions", whole, rows))
        self.assertEqual(len(paper[3]), len(pairs))
        for (i, j), (first, second) in zip(pairs, paper[3]):
            self.assertEqual(mixed(field, first, parts[i][0], second, parts[j][0]), one)
        return found

    def test_fractions_over_all_fields(self):
        for seed, field in enumerate(FIELDS):
            chance, told = chances(seed), 0
            for times in ((1,), (2, 1), (1, 2), (1, 1, 1)):
                parts = []
                for many in times:
                    line = ()
                    while len(line) < 2:
                        line = random_line(chance, field, 2)
                    parts.append((monic_line(field, line), many))
                over = random_line(chance, field, 3)
                told += self.check(field, over, tuple(parts)) is not None
                self.check(field, (), tuple(parts))
                self.assertIsNone(self.check(field, over, tuple(parts + parts[:1])))
            self.assertGreater(told, 0)

    def test_all_small_fractions(self):
        """The fractions of parts that are apart are all that there are; of others, any that hold are taken."""
        for parts in ((((0, 1), 1), ((1, 1), 1)), (((0, 1), 2),), (((1, 1, 1), 1), ((1, 1), 1)), (((0, 1), 1), ((0, 1), 1)), (((0, 1), 1), ((0, 1), 2))):
            shapes = [list(itertools.product(all_lines(2, len(part) - 1), repeat=times)) for part, times in parts]
            values = [(whole, rows) for whole in all_lines(2, 2) for rows in itertools.product(*shapes)]
            for over in all_lines(2, 4):
                told = [value for value in values if above_parts(2, parts, *value) == over]
                self.assertEqual([value for value in values if is_partials(2, over, parts, value)], told)
                found = self.check(2, over, parts)
                if found is not None:
                    self.assertEqual(told, [found])

    def test_longer_lines(self):
        chance = chances(4)
        for prime in (5, 9973):
            self.check(prime, tuple(range(1, 5)) * 15, PARTS)
            self.check(prime, (1, 2), PARTS)
            six = tuple(((k, 1), 5) for k in range(5)) + ((random_line(chance, prime, 5) + (1,), 1),)
            self.check(prime, random_line(chance, prime, 40), six)
        whole = tuple((tuple((number, 1) for number in part), times) for part, times in PARTS)
        self.check(0, tuple((chance.randint(-GREATEST, GREATEST), 1) for _ in range(12)), whole)
        self.check(0, ((1, 1),), tuple((((k, k + 1), (1, 1)), 5) for k in range(6)))
        x = (((0, 1), (1, 1)), ONE)
        self.check(X, (x, (ONE, ONE), x), (((x, (ONE, ONE)), 2), ((((), ONE), (ONE, ONE)), 2)))

    def test_degrees_that_come_to_too_many(self):
        even = tuple(((k, 1), 5) for k in range(6))
        parts = (((1, 2, 3, 4, 0, 1), 6),)
        for good in (even, parts, (((1,) * 31, 1),), (((1,) * 6, 6),)):
            self.check(7, (1, 2, 3), good)
        for bad in (even[:5] + (((5, 1), 6),), (((1,) * 32, 1),), (((1,) * 7, 6),), (((1,) * 61, 6),) * 6):
            for function in (partials, partials_paper):
                self.refused_with(30, function, 7, (1,), bad)
                self.refused(InvalidLine, function, 7, (7,), bad)
            for function in (is_partials, is_partials_paper):
                self.refused_with(30, function, 7, (1,), bad, None)

    def refused_with(self, limit, function, *arguments):
        """Ask that a call raises TooMany with a limit."""
        with self.assertRaises(TooMany) as caught:
            function(*arguments)
        self.assertEqual(caught.exception.limit, limit)

    def test_digits(self):
        for seed, field in enumerate(FIELDS):
            chance = chances(seed)
            one = (number_of(field, 1, 1),)
            for many in (2, 3):
                base = ()
                while len(base) < 2:
                    base = random_line(chance, field, many)
                line = random_line(chance, field, 5)
                digits = digits_of(field, line, base)
                total, power = (), one
                for digit in digits:
                    self.assertLess(len(digit), len(base))
                    total = line_plus(field, total, line_times(field, digit, power))
                    power = line_times(field, power, base)
                self.assertEqual(total, line)
                self.assertNotEqual(digits[-1:], ((),))
                self.assertEqual(digits_of(field, (), base), ())
                self.assertEqual(digits_of(field, one, base), (one,))
                self.assertEqual(digits_of(field, base, base), ((), one))
        self.assertEqual(digits_of(5, (1, 2, 3), (1, 1)), ((2,), (1,), (3,)))
        self.assertEqual(digits_of(2, (1,) * 61, (0, 1)), ((1,),) * 61)
        self.assertEqual(digits_of(7, (5, 0, 3), (0, 2)), ((5,), (), (6,)))

    def test_two_parts(self):
        for seed, field in enumerate(FIELDS):
            chance, told = chances(seed), 0
            for sizes in ((4, 2, 2), (3, 2, 3), (2, 1, 2), (2, 3, 1), (2, 1, 1), (0, 2, 3)):
                over, one, other = (random_line(chance, field, many) for many in sizes)
                if not one or not other:
                    continue
                found = split_two(field, over, one, other)
                if found is None:
                    self.assertGreater(len(common_line(field, one, other)), 1)
                    continue
                told += 1
                whole, first, second = found
                self.assertLess(len(first), len(one))
                self.assertLess(len(second), len(other))
                total = line_plus(field, mixed(field, first, other, second, one), line_times(field, whole, line_times(field, one, other)))
                self.assertEqual(total, over)
            self.assertGreater(told, 0)
            self.assertIsNone(split_two(field, (), (number_of(field, 1, 1),) * 2, (number_of(field, 1, 1),) * 2))
        for over in all_lines(2, 4):
            for one in all_lines(2, 3)[1:]:
                for other in all_lines(2, 3)[1:]:
                    found = split_two(2, over, one, other)
                    told = [
                        (whole, first, second) for whole in all_lines(2, 4) for first in all_lines(2, len(one) - 1) for second in all_lines(2, len(other) - 1)
                        if line_plus(2, mixed(2, first, other, second, one), line_times(2, whole, line_times(2, one, other))) == over
                    ] if len(over) < 3 else None
                    if found is None:
                        self.assertGreater(len(common_line(2, one, other)), 1)
                    elif told is not None:
                        self.assertEqual(told, [found])
        self.assertEqual(split_two(5, (0, 0, 0, 1), (0, 1), (1, 1)), ((4, 1), (), (1,)))
        self.assertEqual(split_two(5, (1, 2, 3), (2,), (4,)), ((2, 4, 1), (), ()))

    def test_papers_that_others_may_tell(self):
        over, parts = (1, 2), (((0, 1), 1), ((1, 1), 2))
        whole, rows = partials(5, over, parts)
        for more in all_lines(5, 2):
            first, second = line_plus(5, (4,), line_times(5, more, (1, 1))), line_plus(5, (1,), line_times(5, more, (0, 4)))
            self.assertIs(is_partials_paper(5, over, parts, ("fractions", whole, rows, ((first, second),))), True)
        for cofactors in ((), (((4,), (1,)), ((4,), (1,))), (((1,), (4,)),), (((4,), (1,), ()),), [((4,), (1,))], (((4,), (True,)),)):
            self.assertIs(is_partials_paper(5, over, parts, ("fractions", whole, rows, cofactors)), False)
        double = (((0, 1), 1), ((1, 1), 1), ((0, 1), 2))
        self.assertIs(is_partials(5, (1, 1), double, ((), (((),), ((),), ((), (1,))))), False)
        above = above_parts(5, double, (2,), (((1,),), ((3,),), ((4,), (1,))))
        for value in range(5):
            self.assertIs(is_partials(5, above, double, ((2,), (((value,) if value else (),), ((3,),), (((5 - value) % 5,) if value % 5 else (), (1,))))), True)
        self.assertIs(is_partials_paper(5, above, double, ("fractions", (2,), (((1,),), ((3,),), ((4,), (1,))), ((((4,), (1,))),) * 3)), False)
        good = common_paper(5, (0, 1), (0, 1))
        self.assertIs(is_partials_paper(5, above, double, ("common", 0, 2, good)), True)
        self.assertIs(is_partials_paper(5, above, double, ("common", 0, 2, ((0, 1), (1,), (), (1,), (1,)))), True)
        for i, j in ((2, 0), (0, 0), (0, 3), (-1, 2), (0, 1), (1, 2), (False, 2), (0, None)):
            self.assertIs(is_partials_paper(5, above, double, ("common", i, j, good)), False)
        self.assertIs(is_partials_paper(5, over, parts, ("common", 0, 1, common_paper(5, (0, 1), (1, 1)))), False)
        great = 10 ** 119
        fractions = partials(0, ((1, 1),), ((((0, 1), (1, 1)), 1), (((1, 1), (1, 1)), 1)))
        cofactors = (((-1 + great, 1), (great, 1)), ((1, 1), (-great, 1)))
        paper = ("fractions",) + fractions + ((cofactors,),)
        self.assertIs(is_partials_paper(0, ((1, 1),), ((((0, 1), (1, 1)), 1), (((1, 1), (1, 1)), 1)), paper), True)

    def test_spoilt_papers(self):
        x = ((0, 1), (1, 1))
        for field, over, parts in ((5, (1, 2, 3, 4, 1, 2), (((0, 1), 1), ((1, 1), 2))), (0, ((1, 2), (3, 1)), ((((1, 2), (1, 1)), 2), (((1, 1), (0, 1), (1, 1)), 1))),
                                   (X, ((ONE, x),), ((((ONE, ONE), (ONE, ONE)), 1), (((x, ONE), (ONE, ONE)), 1))), (R, (ONE, x), (((x, ONE), 1), ((ONE, ONE), 2)))):
            self.judges(is_partials, (field, over, parts), partials(field, over, parts))
            self.judges(is_partials_paper, (field, over, parts), partials_paper(field, over, parts))
        parts = (((0, 1), 1), ((0, 1, 1), 2))
        self.judges(is_partials_paper, (5, (1,), parts), partials_paper(5, (1,), parts))
        self.judges(is_partials_paper, (5, (1,), (((2, 1), 6),)), partials_paper(5, (1,), (((2, 1), 6),)))

    def test_roots_of_a_line_that_can_be_split(self):
        for seed, field in enumerate(SPLITS):
            chance, told = chances(seed), 0
            one = number_of(field, 1, 1)
            for _ in range(12):
                parts = tuple(((random_line(chance, field, 1) or ((),)) + (one,), times) for times in (1, 2))
                over = random_line(chance, field, 3)
                for value in any_values():
                    self.assertIs(is_partials_paper(field, over, parts, value), False)
                try:
                    paper = partials_paper(field, over, parts)
                    self.assertIs(is_partials_paper(field, over, parts, paper), True)
                    if paper[0] == "fractions":
                        self.assertEqual(partials(field, over, parts), paper[1:3])
                        self.assertIs(is_partials(field, over, parts, paper[1:3]), True)
                    told += 1
                except ByNought:
                    pass
                try:
                    found = split_two(field, over, parts[0][0], parts[1][0])
                    if found is not None:
                        whole, first, second = found
                        total = line_plus(field, line_times(field, first, parts[1][0]), line_times(field, second, parts[0][0]))
                        total = line_plus(field, total, line_times(field, whole, line_times(field, parts[0][0], parts[1][0])))
                        self.assertEqual(total, over)
                except ByNought:
                    pass
            self.assertGreater(told, 1)
        self.refused(ByNought, digits_of, SPLITS[0], (ONE, ONE), (ONE, ((-1, 1), (1, 1))))

    def test_wrong_arguments(self):
        parts = (((0, 1), 1),)
        for field, good in ((0, ((0, 1), (1, 1))), (5, (1, 1)), (X, ((ONE, ONE), (ONE, ONE))), (R, (ONE, ONE))):
            wrong = [value for value in any_values() if not is_line(field, value)]
            self.refuses_all(InvalidLine, digits_of, (field,), wrong, ((),))
            self.refuses_all(InvalidLine, digits_of, (field, good), wrong)
            self.refused(ByNought, digits_of, field, good, ())
            self.refused(InvalidBase, digits_of, field, good, good[1:])
            self.refused(InvalidBase, digits_of, field, (), good[1:])
            self.refuses_all(InvalidLine, split_two, (field,), wrong, ((), None))
            self.refuses_all(InvalidLine, split_two, (field, good), wrong, ((),))
            self.refuses_all(InvalidLine, split_two, (field, good, good), wrong)
            self.refused(ByNought, split_two, field, good, (), None)
            self.refused(ByNought, split_two, field, good, good, ())
            self.refused(InvalidLine, split_two, field, None, (), ())
            for function in (partials, partials_paper):
                self.refuses_all(InvalidLine, function, (field,), wrong, (None,))
            for function in (is_partials, is_partials_paper):
                self.refuses_all(InvalidLine, function, (field,), wrong, (None, None))
        bad = any_values() + [
            parts * 7, (((0, 1), 0),), (((0, 1), 7),), (((0, 1), True),), (((0, 1), None),), (((0, 2), 1),), (((1,), 1),), (((), 1),), (((0, 5), 1),),
            [((0, 1), 1)], ([(0, 1), 1],), (((0, 1), 1, 1),), (((0, 1),),), parts + (None,), (((0,) * 61 + (1,), 1),), ((0, 1), 1), (),
        ]
        for function in (partials, partials_paper):
            self.refuses_all(InvalidParts, function, (5, (1,)), bad)
        for function in (is_partials, is_partials_paper):
            self.refuses_all(InvalidParts, function, (5, (1,)), bad, (None,))
        self.refuses_fields(digits_of, None, None)
        self.refuses_fields(split_two, None, None, None)
        for function in (partials, partials_paper):
            self.refuses_fields(function, None, None)
        for function in (is_partials, is_partials_paper):
            self.refuses_fields(function, None, None, None)

    def test_each_name_is_defined_here(self):
        for name in "digits_of split_two partials is_partials partials_paper is_partials_paper".split():
            self.assertEqual(getattr(partials_file, name).__module__, "towerback.partials")


if __name__ == "__main__":
    unittest.main()
