"""The errors of terms, and of the whole program: point 121 and the heading of termerrors.py."""

import unittest

from towerback import termerrors
from towerback.errors import PaperError
from towerback.termerrors import AtPart, BadText, ConstantStep, TooDeep, UnknownStep, ZeroLog, ZeroUnder

PLAIN = "InvalidText InvalidTerm InvalidPath InvalidAnswer".split()
AT_PARTS = (TooDeep, ZeroUnder, ZeroLog, ConstantStep, UnknownStep)


class TermErrors(unittest.TestCase):
    def test_classes(self):
        for name in PLAIN + ["BadText", "AtPart"]:
            self.assertEqual(getattr(termerrors, name).__bases__, (PaperError,), name)
        for kind in AT_PARTS:
            self.assertEqual(kind.__bases__, (AtPart,), kind)
        for name in PLAIN + ["BadText", "AtPart"] + [kind.__name__ for kind in AT_PARTS]:
            self.assertEqual(getattr(termerrors, name).__module__, "towerback.termerrors")

    def test_there_are_no_other_classes(self):
        found = [name for name, value in vars(termerrors).items() if isinstance(value, type)]
        self.assertEqual(sorted(found), sorted(PLAIN + ["PaperError", "BadText", "AtPart"] + [kind.__name__ for kind in AT_PARTS]))

    def test_attributes(self):
        self.assertEqual(BadText(7).place, 7)
        for kind in AT_PARTS + (AtPart,):
            self.assertEqual(kind((0, 1)).path, (0, 1))
            with self.assertRaises(ValueError) as caught:
                raise kind(())
            self.assertEqual(caught.exception.path, ())
        for name in PLAIN:
            self.assertEqual(str(getattr(termerrors, name)("why")), "why")


if __name__ == "__main__":
    unittest.main()
