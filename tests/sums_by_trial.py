"""Root sums and their derivatives, word by word, against which the package is held."""

from tests.reference import field_for
from tests.support import random_number, trimmed
from tests.test_rootlifts import FQ
from towerback.fieldways import inverse_of, number_of, number_plus, number_times
from towerback.rawtowers import derived_number
from towerback.rootlifts import with_root
from towerback.rootthings import trace_of
from towerback.towers import derivative_of, field_of

# Root lines of several degrees.
ROOTS = [
    ((-1, 1), (1, 1)), ((2, 3), (1, 1)), FQ, ((-2, 1), (0, 1), (1, 1)), ((1, 3), (1, 1), (1, 1)),
    ((-2, 1), (0, 1), (0, 1), (1, 1)), ((1, 1), (1, 1), (0, 1), (0, 1), (1, 1)),
]
TWELVE = ((2, 1),) + ((0, 1),) * 11 + ((1, 1),)
THIRTEEN = ((2, 1),) + ((0, 1),) * 12 + ((1, 1),)


def root_of(field, line):
    """Return the root of a root line in a field with it."""
    nought = number_of(field, 0, 1)
    if len(line) == 2:
        number = number_of(field, -line[0][0], line[0][1])
        return () if number == nought else (number,)
    return nought, number_of(field, 1, 1)


def plain_derivative(tower, sums):
    """Return the derivative of root sums: the trace of the root times the derivative of the thing by it."""
    field = field_of(tower)
    total = number_of(field, 0, 1)
    for line, thing in sums:
        with_it = with_root(field, line)
        slope = trimmed(field, [derivative_of(tower, number) for number in thing])
        found = number_times(with_it, number_times(with_it, root_of(field, line), slope), inverse_of(with_it, thing))
        total = number_plus(field, total, trace_of(with_it, found))
    return total


def great_derivative(root_sum):
    """Return the derivative of a root sum of (), of any size, by plain arithmetic."""
    line, thing = root_sum
    below, field = field_for(("quot", 0)), field_for(with_root(("quot", 0), line))
    slope = field.lines.trimmed(below.read(derived_number((), number)) for number in thing)
    root = field.read(root_of(("quot", 0), line))
    row = field.times(field.times(root, slope), field.inverse(field.read(thing)))
    total = below.zero
    for at in range(len(line) - 1):
        total = below.add(total, row[at] if at < len(row) else below.zero)
        row = field.times(row, root if len(line) > 2 else field.read(()))
    return below.told(total)


def random_sum(chance, tower, line, most=1):
    """Return some root sum of a tower with a root line."""
    field = with_root(field_of(tower), line)
    thing = ()
    while thing == ():
        thing = random_number(chance, field, most)
    return line, thing


def constant_thing(tower, *numbers):
    """Return a number, with a root, of the field of a tower whose numbers are integers."""
    return trimmed(field_of(tower), [number_of(field_of(tower), number, 1) for number in numbers])
