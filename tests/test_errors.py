"""Point 121: the errors."""

import unittest

from towerback import errors
from towerback.errors import PaperError, TooMany

NAMES = (
    "InvalidField InvalidNumber InvalidLine InvalidTower ByNought TooMany InvalidRow InvalidTable EmptyLine UnfitField"
    " InvalidIndex InvalidBase InvalidParts InvalidMonic NotSquareFree InvalidWhole InvalidLift InvalidLot InvalidSums"
    " NotProper NotNormal InvalidBounds InvalidInner InvalidStep InvalidMaker NoValue InvalidPoint"
).split()


class Errors(unittest.TestCase):
    def test_base_is_a_value_error(self):
        self.assertEqual(PaperError.__bases__, (ValueError,))
        self.assertEqual(PaperError.__module__, "towerback.errors")

    def test_each_class_stands_directly_beneath(self):
        for name in NAMES:
            self.assertEqual(getattr(errors, name).__bases__, (PaperError,), name)
            self.assertEqual(getattr(errors, name).__module__, "towerback.errors", name)

    def test_there_are_no_other_classes(self):
        found = [name for name, value in vars(errors).items() if isinstance(value, type)]
        self.assertEqual(sorted(found), sorted(NAMES + ["PaperError"]))

    def test_limit_is_what_it_was_made_with(self):
        for limit in (12, 0, 10 ** 100):
            self.assertEqual(TooMany(limit).limit, limit)
            with self.assertRaises(PaperError) as caught:
                raise TooMany(limit)
            self.assertEqual(caught.exception.limit, limit)

    def test_others_are_made_with_a_text(self):
        for name in NAMES:
            if name != "TooMany":
                self.assertEqual(str(getattr(errors, name)("why")), "why")


if __name__ == "__main__":
    unittest.main()
