"""Points 38 and 103: steady lines, looked at mod a prime ahead of all."""

import unittest

from tests.support import X, chances, random_line, trimmed
from tests.test_onestep import plain_steady
from tests.test_stepparts import NOUGHT, ONE
from tests.test_towers import U, W, rational
from towerback.fieldways import inverse_of, number_minus, number_of, quotient_of
from towerback.lineways import line_plus, line_times, monic_line
from towerback.nestedcommon import IMAGE_PRIME, image_point
from towerback.steadylines import is_shown_unsteady, is_steady

# Where images are taken, something by this has none.
POINT = image_point(0, 0, IMAGE_PRIME)
AT_POINT = quotient_of(0, ((1, 1),), ((-POINT, 1), (1, 1)))
BY_PRIME = number_of(X, 1, IMAGE_PRIME)


def steady_lines(chance):
    """Return pairs of lines, the first one being steady for the other one."""
    under = ()
    while len(under) < 2:
        under = random_line(chance, X, 3)
    under = monic_line(X, under)
    constant = trimmed(X, [number_of(X, chance.randint(-5, 5), chance.randint(1, 3))])
    # A product with the under more, so that it is steady at its roots alone.
    more = line_times(X, random_line(chance, X, 2), under)
    return [(constant, under), (line_plus(X, constant, more), under)]


class SteadyLines(unittest.TestCase):
    def check(self, line, under):
        """Ask that a line is told to be steady, or not, by the words of the document."""
        steady = plain_steady(line, under)
        self.assertIs(is_steady(line, under), steady, (line, under))
        if steady:
            self.assertIs(is_shown_unsteady(line, under), False, (line, under))
        return steady

    def test_lines(self):
        words = []
        for seed in range(40):
            chance = chances(seed)
            under = ()
            while len(under) < 2:
                under = random_line(chance, X, 4)
            under = monic_line(X, under)
            words.append(self.check(random_line(chance, X, len(under) - 1), under))
            for line, other in steady_lines(chance):
                words.append(self.check(line, other))
                self.assertIs(words[-1], True)
        self.assertGreater(min(words.count(True), words.count(False)), 20)

    def test_lines_without_images(self):
        """What has no image mod the prime is looked at as it is."""
        for part in (AT_POINT, BY_PRIME, inverse_of(X, quotient_of(0, ((-POINT, 1), (1, 1)), ((1, IMAGE_PRIME),)))):
            for under in ((part, ONE), (NOUGHT, part, ONE), (U, part, ONE)):
                self.assertIs(self.check((rational(3),), under), True)
                self.check((U,), under)
                self.check((W, ONE)[:len(under) - 1], under)
            self.check((part,), (U, ONE))
            self.check((part, ONE), (U, NOUGHT, ONE))
        self.assertIs(self.check((AT_POINT,), (U, ONE)), False)
        self.assertIs(self.check((BY_PRIME,), (U, ONE)), True)

    def test_images_show_most(self):
        self.assertIs(is_shown_unsteady((U,), (U, ONE)), True)
        self.assertIs(is_shown_unsteady((W,), (NOUGHT, ONE)), True)
        self.assertIs(is_shown_unsteady((AT_POINT,), (U, ONE)), False)
        # With the under t - x, the line x is t there, and the derivative of the values of t is one: none of them is steady.
        minus = number_minus(X, NOUGHT, U)
        self.assertIs(self.check((NOUGHT, ONE), (minus, ONE)), False)
        self.assertIs(self.check((U,), (minus, ONE)), False)
        self.assertIs(self.check((rational(2), ONE), (rational(-1), ONE)), True)
        self.assertIs(self.check((), (ONE,)), True)
        self.assertIs(self.check((), (U, ONE)), True)


if __name__ == "__main__":
    unittest.main()
