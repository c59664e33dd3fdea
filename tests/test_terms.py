"""Points 39 and 104: terms, their parts, heights, sizes and paths."""

import unittest

from tests.support import Asks, any_values, chances, deep_value
from tests.term_support import NEAR_TERMS, NOT_TERMS, W0, W1, W2, X1, all_parts, chain, of_many, parts, random_term
from towerback import terms
from towerback.termerrors import InvalidPath, InvalidTerm
from towerback.terms import height_of, is_term, part_at, parts_of, size_of

IT = ("over", ("plus", X1, W1), ("power", X1, 2))


def plain_height(term):
    """Return the height of a term."""
    return 1 + max([plain_height(part) for part in parts(term)], default=0)


def plain_size(term):
    """Return the size of a term, by the words of the document."""
    sort = term[0]
    if sort == "whole":
        return 0, 0
    if sort in ("x", "log", "exp"):
        return 1, 0
    a, b = plain_size(term[1])
    if sort == "negative":
        return a, b
    if sort == "power":
        return term[2] * a, term[2] * b
    c, d = plain_size(term[2])
    if sort == "times":
        return a + c, b + d
    if sort == "over":
        return a + d, b + c
    return max(a + d, c + b), b + d


class Terms(Asks, unittest.TestCase):
    def test_what_is_a_term(self):
        chance = chances(104)
        for _ in range(200):
            self.assertIs(is_term(random_term(chance, 6)), True)
        for term in (X1, W0, ("whole", 10 ** 6), ("power", X1, 0), ("power", X1, 12), ("log", W0), ("exp", ("log", ("exp", X1))), ("over", W1, W0), IT):
            self.assertIs(is_term(term), True, term)

    def test_what_is_none(self):
        for value in NOT_TERMS:
            self.assertIs(is_term(value), False, value)
            for term in (("negative", value), ("plus", X1, value), ("over", value, X1), ("power", value, 2), ("log", value), ("exp", ("negative", value))):
                self.assertIs(is_term(term), False, term)
        for value in any_values():
            self.assertIs(is_term(("whole", value)), False)
            self.assertIs(is_term(("power", X1, value)), False)

    def test_heights_and_counts(self):
        self.assertIs(is_term(chain(59)), True)
        self.assertIs(is_term(chain(60)), False)
        self.assertIs(is_term(("plus", W1, chain(59))), False)
        self.assertIs(is_term(chain(98)), False)
        self.assertIs(is_term(deep_value(100)), False)
        # 20,000 terms, each counted as often as it stands.
        most = of_many(20000)
        self.assertEqual(len(all_parts(most)), 20000)
        self.assertIs(is_term(most), True)
        self.assertIs(is_term(of_many(20001)), False)
        self.assertIs(is_term(("negative", most)), False)
        shared = of_many(9999)
        self.assertIs(is_term(("times", shared, shared)), True)
        self.assertIs(is_term(("negative", ("negative", ("times", shared, shared)))), False)
        for _ in range(40):
            shared = ("plus", shared, shared)
        self.assertIs(is_term(shared), False)

    def test_parts_heights_and_sizes(self):
        chance = chances(39)
        for _ in range(200):
            term = random_term(chance, 6)
            self.assertEqual(parts_of(term), parts(term))
            self.assertEqual(height_of(term), plain_height(term))
            self.assertEqual(size_of(term), plain_size(term))
        self.assertEqual((height_of(IT), size_of(IT), parts_of(("log", X1))), (3, (1, 2), (X1,)))
        self.assertEqual((parts_of(X1), parts_of(W2), parts_of(("power", X1, 2))), ((), (), (X1,)))
        self.assertEqual((height_of(X1), height_of(chain(59)), height_of(("plus", W1, chain(3)))), (1, 60, 5))
        self.assertEqual([size_of(term) for term in (W2, X1, ("log", IT), ("exp", W1), ("negative", IT))], [(0, 0), (1, 0), (1, 0), (1, 0), (1, 2)])
        self.assertEqual(size_of(("times", IT, IT)), (2, 4))
        self.assertEqual(size_of(("over", IT, ("times", X1, X1))), (1, 4))
        self.assertEqual(size_of(("plus", IT, X1)), (3, 2))
        self.assertEqual(size_of(("minus", X1, ("over", W1, ("power", X1, 5)))), (6, 5))
        self.assertEqual(size_of(("minus", ("over", W1, X1), ("over", ("power", X1, 5), ("power", X1, 3)))), (6, 4))
        self.assertEqual([size_of(("power", IT, power)) for power in (0, 1, 12)], [(0, 0), (1, 2), (12, 24)])
        # However great: powers of powers.
        term = X1
        for _ in range(59):
            term = ("power", term, 12)
        self.assertEqual(size_of(term), (12 ** 59, 0))

    def test_paths(self):
        chance = chances(40)
        for _ in range(60):
            term = random_term(chance, 5)
            for path, part in all_parts(term):
                self.assertEqual(part_at(term, path), part)
                for wrong in (-1, len(parts(part)), 2, True, False, None, "0", (0,)):
                    self.refused(InvalidPath, part_at, term, path + (wrong,))
        self.assertEqual(part_at(IT, ()), IT)
        self.assertEqual(part_at(IT, (0, 1)), W1)
        self.assertEqual(part_at(IT, (1, 0)), X1)
        # The exponent of a power, and a whole's integer, are no parts.
        for path in ((1, 1), (1, 2), (0, 1, 0), (0, 0, 0), (2,), (0, 2), (-1,), (True,), [0], [], 0, "", ("0",), (0, None)):
            self.refused(InvalidPath, part_at, IT, path)
        self.assertEqual(part_at(chain(59), (0,) * 59), X1)
        self.refused(InvalidPath, part_at, chain(59), (0,) * 60)

    def test_wrong_arguments(self):
        for call in (parts_of, height_of, size_of):
            self.refuses_all(InvalidTerm, call, (), NOT_TERMS + [chain(60), of_many(20001)])
        self.refuses_all(InvalidTerm, part_at, (), NOT_TERMS + [chain(60)], (None,))
        self.refuses_all(InvalidTerm, part_at, (), NEAR_TERMS, ((),))
        self.refuses_all(InvalidPath, part_at, (IT,), [value for value in any_values() if value != ()])

    def test_each_name_is_defined_here(self):
        for name in "is_term parts_of height_of size_of part_at".split():
            self.assertEqual(getattr(terms, name).__module__, "towerback.terms")


if __name__ == "__main__":
    unittest.main()
