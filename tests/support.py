"""What the tests share: any values, spoilt papers, fields, and ways to ask for errors."""

import itertools
import random

from towerback.errors import ByNought, InvalidField, PaperError, TooMany
from towerback.fieldways import number_of, quotient_of
from towerback.lineways import line_times

GREATEST = 10 ** 100

X = ("quot", 0)
R = ("root", 0, ((1, 1), (0, 1), (1, 1)))

# Fields without a line that can be split, and one with such a line.
FIELDS = [
    0, 2, 5, 9973, X, ("quot", X), ("quot", 5), ("quot", ("quot", 2)), R, ("quot", R),
    ("root", 0, ((-2, 1), (0, 1), (0, 1), (1, 1))),
    ("root", 5, (2, 0, 1)), ("quot", ("root", 5, (2, 0, 1))),
    ("root", R, (((-2, 1),), (), ((1, 1),))),
    ("root", X, ((((0, 1), (-1, 1)), ((1, 1),)), ((), ((1, 1),)), (((1, 1),), ((1, 1),)))),
    ("root", 0, ((3, 1), (1, 1))),
]
SPLIT = ("root", 0, ((-1, 1), (0, 1), (1, 1)))
# Fields with a line that can be split, into two lines or into one twice.
SPLITS = [
    SPLIT, ("root", 0, ((1, 1), (-2, 1), (1, 1))), ("root", 5, (4, 0, 1)), ("root", 2, (1, 0, 1)), ("root", 3, (0, 2, 0, 1)),
    ("root", X, ((((-1, 1),), ((1, 1),)), ((), ((1, 1),)), (((1, 1),), ((1, 1),)))),
]


def deep_value(many):
    """Return a tuple that is nested so deep."""
    value = ()
    for _ in range(many - 1):
        value = (value,)
    return value


def deep_field(many, kind="quot"):
    """Return a field that is built so deep over the prime 2."""
    field, one = 2, 1
    for _ in range(many):
        if kind == "quot":
            field, one = ("quot", field), ((one,), (one,))
        else:
            field, one = ("root", field, (one, one)), (one,)
    return field


def any_values():
    """Return values of all kinds that no function takes as anything but any value."""
    return [
        None, True, False, "", "log", "no", "prime", [], [0], [1, 2], (None,), (True, 1), (1, True), (0, False), [(1, 1)],
        ("quot",), ("quot", None), ("quot", [0]), ["quot", 0], ("root", 0), ("root", 0, ()), ("log", None), (("log",),),
        ([], []), ((), []), (((),),), ("none",), ("none", None, None), ("none", 1), ("split", 2), ("prime", None),
        ("back", None), ("joined", None), ("order", 1, None), ("value", 1), ("", ()), (None,) * 5, ((),) * 3, ("a\nb",),
        deep_value(100), tuple(range(1000)), 10 ** 119, -10 ** 119, PaperError("a"), ByNought("b"), TooMany(3), (TooMany(2),),
        ("inverse", None), ("inverse", True), ("none", 1, 2, None), (1, (), ()), ((), (), ()), (0, None, None),
    ]


def changed(value):
    """Return values that are not the value that is told, each in one place."""
    if isinstance(value, bool) or value is None:
        return [0]
    if isinstance(value, int):
        found = [value + 1, value - 1, str(value), (value,), None]
        return found + [value == 1] if value in (0, 1) else found
    if isinstance(value, str):
        return [value + "s", "", (value,), None]
    found = [list(value), value + (0,), value + ((),), value + (None,)]
    if value:
        found.append(value[:-1])
    for at, part in enumerate(value):
        found.extend(value[:at] + (other,) + value[at + 1:] for other in changed(part))
    return found


def trimmed(field, numbers):
    """Return numbers, without the noughts at their end, as a line."""
    numbers = list(numbers)
    while numbers and numbers[-1] == number_of(field, 0, 1):
        numbers.pop()
    return tuple(numbers)


def random_number(chance, field, most=2):
    """Return some number of a field."""
    if isinstance(field, int):
        return chance.randrange(field) if field else number_of(0, chance.randint(-6, 6), chance.randint(1, 4))
    inner = field[1]
    if field[0] == "root":
        return trimmed(inner, [random_number(chance, inner, most) for _ in range(len(field[2]) - 1)])
    over = random_line(chance, inner, chance.randint(0, most))
    under = ()
    while not under:
        under = random_line(chance, inner, chance.randint(1, most))
    return quotient_of(inner, over, under)


def random_line(chance, field, many):
    """Return some line of so many numbers at most."""
    return trimmed(field, [random_number(chance, field) for _ in range(many)])


def all_rows(prime, many):
    """Return all rows of so many numbers of a prime field."""
    return [tuple(row) for row in itertools.product(range(prime), repeat=many)]


def all_lines(prime, many):
    """Return all lines over a prime field of so many numbers at most, shorter ones first."""
    found = [()]
    for length in range(1, many + 1):
        found.extend(row for row in all_rows(prime, length) if row[-1])
    return found


def monic_lines(prime, degree):
    """Return all monic lines over a prime field of a degree."""
    return [row + (1,) for row in all_rows(prime, degree)]


def unsplit_lines(prime, most):
    """Return all monic lines over a prime field, of degree 1 up to the most, that are not products of two such lines."""
    found = []
    for degree in range(1, most + 1):
        products = set()
        for part in found:
            if 2 * len(part) - 2 <= degree:
                for other in monic_lines(prime, degree - len(part) + 1):
                    products.add(line_times(prime, part, other))
        found.extend(line for line in monic_lines(prime, degree) if line not in products)
    return found


def chances(seed):
    """Return a source of chance that is the same in each run."""
    return random.Random(seed)


class Asks:
    """Ways to ask for errors, to be mixed with a TestCase."""

    def refused(self, error, function, *arguments):
        """Ask that a call raises just this error."""
        with self.assertRaises(PaperError, msg=(function.__name__, arguments)) as caught:
            function(*arguments)
        self.assertIs(type(caught.exception), error, (function.__name__, arguments))

    def refuses_all(self, error, function, ahead, values, behind=()):
        """Ask that a call raises just this error for each of some values at one place."""
        for value in values:
            self.refused(error, function, *ahead, value, *behind)

    def refuses_fields(self, function, *behind):
        """Ask that a call raises InvalidField for what is no field, whatever stands behind it."""
        for value in any_values() + [-1, 1, 4, 9, 9974, 10007, deep_field(7)]:
            self.refused(InvalidField, function, value, *behind)
            self.refused(InvalidField, function, value, *(None for _ in behind))

    def judges(self, takes, arguments, paper, spoil=True):
        """Ask that a paper is taken, no spoilt one is, and any value is judged without an error."""
        self.assertIs(takes(*arguments, paper), True, (arguments, paper))
        for value in any_values():
            self.assertIs(takes(*arguments, value), False, (arguments, value))
        if spoil:
            for value in changed(paper):
                self.assertIs(takes(*arguments, value), False, (arguments, value))
