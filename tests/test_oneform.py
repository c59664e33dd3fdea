"""Points 26 and 92: root sums of rational functions in one form."""

import unittest

from tests.sums_by_trial import ROOTS, TWELVE, constant_thing, random_sum
from tests.support import Asks, any_values, chances
from tests.test_rootlifts import FQ
from tests.test_rootsums import FS
from tests.test_towers import TOWERS, rational
from towerback import oneform
from towerback.errors import InvalidSums, TooMany
from towerback.logarithms import logarithms
from towerback.oneform import are_one, plain_sums
from towerback.rootsums import sums_derived, sums_joined, sums_times

FX, FXX = (rational(0, 1),), (rational(0, 0, 1),)
ONE, TWO = ((-1, 1), (1, 1)), ((-2, 1), (1, 1))


class OneForm(Asks, unittest.TestCase):
    def test_plain_sums(self):
        chance, done = chances(92), 0
        while done < 30:
            sums = tuple(random_sum(chance, (), line) for line in chance.choices(ROOTS[:5], k=chance.randint(1, 2)))
            over, under = sums_derived((), sums)
            if len(under) > 13:
                with self.assertRaises(TooMany) as caught:
                    plain_sums(sums)
                self.assertEqual(caught.exception.limit, 12)
                continue
            done += 1
            found = plain_sums(sums)
            self.assertEqual(sums_derived((), found), (over, under))
            self.assertEqual(found, logarithms((), over, under) if over else ())
            self.assertEqual(plain_sums(found), found)
            self.assertIs(are_one(sums, found), True)
            for other in (sums[::-1], sums_joined((), sums), sums_times((), sums_times((), sums, (3, 1)), (1, 3))):
                self.assertEqual(plain_sums(other), found)
                self.assertIs(are_one(sums, other), True)
            if over:
                self.assertIs(are_one(sums, sums_times((), sums, (2, 1))), False)
                self.assertIs(are_one(sums, ()), False)
                self.assertNotEqual(plain_sums(sums_times((), sums, (2, 1))), found)

    def test_one_value_in_many_forms(self):
        self.assertEqual(plain_sums(((ONE, FXX),)), ((TWO, FX),))
        self.assertIs(are_one(((ONE, FXX),), ((TWO, FX),)), True)
        self.assertEqual(plain_sums(()), ())
        self.assertEqual(plain_sums(((FQ, FS),)), ((FQ, FS),))
        # The logarithm of (x + 1) / (x - 1), and two.
        quotient = (((1, 1), (1, 1)), ((-1, 1), (1, 1)))
        self.assertEqual(plain_sums(((ONE, (quotient,)),)), ((ONE, (rational(1, 1),)), (((1, 1), (1, 1)), (rational(-1, 1),))))
        # Over the roots of c^2 - 1/4, which can be split, two root lines stand for one.
        self.assertEqual(plain_sums(((ONE, FX), (((1, 1), (1, 1)), FX))), ())
        self.assertIs(are_one(((ONE, FX), (((1, 1), (1, 1)), FX)), ()), True)
        self.assertEqual(plain_sums(((FQ, constant_thing((), 4, 1)),)), ())
        self.assertEqual(plain_sums(((ONE, FX),) * 16), ((((-16, 1), (1, 1)), FX),))

    def test_degrees(self):
        thing = (rational(0, 1), rational(1))
        self.assertEqual(sums_derived((), plain_sums(((TWELVE, thing),))), sums_derived((), ((TWELVE, thing),)))
        with self.assertRaises(TooMany) as caught:
            plain_sums(((TWELVE, thing), (ONE, (rational(5, 1),))))
        self.assertEqual(caught.exception.limit, 12)
        # What goes out of the under does not count.
        self.assertEqual(plain_sums(((TWELVE, thing), (ONE, FX), (((1, 1), (1, 1)), FX))), plain_sums(((TWELVE, thing),)))
        self.assertIs(are_one(((TWELVE, thing), (ONE, (rational(5, 1),))), ((ONE, (rational(5, 1),)), (TWELVE, thing))), True)

    def test_wrong_arguments(self):
        values = [value for value in any_values() if value != ()] + [[], ((FQ, ()),), (FQ, FS), ((ONE, FX),) * 17]
        values += [((((0, 1), (1, 1)), FX),), (((ONE, ((FX, (rational(1),)),))),)]
        self.refuses_all(InvalidSums, plain_sums, (), values)
        self.refuses_all(InvalidSums, are_one, (), values, (None,))
        self.refuses_all(InvalidSums, are_one, ((),), values)
        step = random_sum(chances(1), TOWERS[1], ONE)
        self.refused(InvalidSums, plain_sums, (step,))
        self.assertIs(are_one((), ()), True)

    def test_each_name_is_defined_here(self):
        for name in "plain_sums are_one".split():
            self.assertEqual(getattr(oneform, name).__module__, "towerback.oneform")


if __name__ == "__main__":
    unittest.main()
