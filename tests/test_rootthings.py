"""Points 23 and 87: tables, traces, norms and lines of numbers of root fields."""

import unittest

from tests.reference import Lines, field_for
from tests.support import GREATEST, SPLITS, Asks, R, X, any_values, chances, random_number
from tests.test_determinants import plain_determinant
from towerback import rootthings
from towerback.errors import InvalidField, InvalidNumber
from towerback.fieldways import is_number, number_of, number_plus, number_times
from towerback.lineways import common_line, divided_lines, does_divide, line_at, line_times, slope_of
from towerback.rootthings import full_line, least_line, norm_of, table_of, trace_of

XX = ((), ((1, 1),)), ((0, 1), (1, 1))
ONE_X = ((1, 1),), ((1, 1),)
X_X = ((0, 1), (1, 1)), ((1, 1),)
LESS_X = ((0, 1), (-1, 1)), ((1, 1),)
NOUGHT_X = (), ((1, 1),)
BELOW_X = ((1, 1),), ((0, 1), (1, 1))

# Root fields over 0, over X, over X's quotients and over root fields; of lines that can be split, and that can not.
FIELDS = [
    R, ("root", 0, ((-2, 1), (0, 1), (0, 1), (1, 1))), ("root", 0, ((3, 1), (1, 1))), ("root", 0, ((1, 2), (-1, 3), (0, 1), (2, 1), (1, 1))),
    ("root", X, (LESS_X, NOUGHT_X, ONE_X)), ("root", X, (BELOW_X, X_X, NOUGHT_X, ONE_X)), ("root", X, (X_X, ONE_X)),
    ("root", R, (((-2, 1),), (), ((1, 1),))), ("root", R, (((0, 1), (1, 1)), ((1, 1),), ((3, 1),), ((1, 1),))),
    ("root", ("quot", X), (((LESS_X,), (ONE_X,)), ((), (ONE_X,)), ((ONE_X,), (ONE_X,)))),
    ("root", ("quot", R), (((((0, 1), (1, 1)),), (((1, 1),),)), ((((1, 1),),), (((1, 1),),)))),
] + [field for field in SPLITS if field[1] == 0 or field[1] == X] + [
    ("root", 0, ((0, 1), (0, 1), (0, 1), (1, 1))), ("root", 0, ((0, 1), (1, 1), (2, 1), (1, 1))), ("root", X, (NOUGHT_X, LESS_X, ONE_X)),
    ("root", R, (((1, 1),), (), ((1, 1),))), ("root", X, (((((0, 1), (0, 1), (1, 1))), ((1, 1),)), (((0, 1), (2, 1)), ((1, 1),)), ONE_X)),
]


def minor_sums(field, table, plain):
    """Return the determinant of z on the diagonal less a table, as a line in z, over lines of plain numbers."""
    lines = Lines(plain)
    rows = [[lines.trimmed((plain.negative(plain.read(number)),) + ((plain.one,) if i == j else ())) for j, number in enumerate(row)]
            for i, row in enumerate(table)]
    return lines.told(expanded(lines, rows))


def expanded(lines, rows):
    """Return a determinant of lines by its first row."""
    if not rows:
        return (lines.field.one,)
    total = ()
    for at, line in enumerate(rows[0]):
        part = lines.times(line, expanded(lines, [row[:at] + row[at + 1:] for row in rows[1:]]))
        total = lines.add(total, lines.negative(part) if at % 2 else part)
    return total


class RootThings(Asks, unittest.TestCase):
    def numbers(self, chance, field):
        """Return numbers of a field: noughts, ones, the root, numbers of the field below, and others."""
        below = field[1]
        nought, one = number_of(below, 0, 1), number_of(below, 1, 1)
        found = [(), (one,), (number_of(below, -3, 2),)]
        if len(field[2]) > 2:
            found += [(nought, one), (one, number_of(below, 2, 1))]
        number = random_number(chance, below, 1)
        return found + [() if number == nought else (number,)] + [random_number(chance, field, 1) for _ in range(3)]

    def test_tables(self):
        chance = chances(23)
        for field in FIELDS:
            below, many = field[1], len(field[2]) - 1
            nought, one = number_of(below, 0, 1), number_of(below, 1, 1)
            root = divided_lines(below, (nought, one), field[2])[1]
            for number in self.numbers(chance, field):
                table = table_of(field, number)
                self.assertEqual((type(table), len(table)), (tuple, many))
                power = number
                for row in table:
                    self.assertEqual(row, power + (nought,) * (many - len(power)))
                    power = number_times(field, power, root)
                trace = nought
                for at, row in enumerate(table):
                    trace = number_plus(below, trace, row[at])
                self.assertEqual(trace_of(field, number), trace)
                self.assertEqual(norm_of(field, number), plain_determinant(below, table), (field, number))

    def test_full_and_least_lines(self):
        chance = chances(24)
        for field in FIELDS:
            below, many = field[1], len(field[2]) - 1
            one = number_of(below, 1, 1)
            for number in self.numbers(chance, field):
                full, least = full_line(field, number), least_line(field, number)
                self.assertEqual(full, minor_sums(below, table_of(field, number), field_for(below)), (field, number))
                self.assertEqual((len(full), full[-1], least[-1]), (many + 1, one, one))
                # A line has the number as a root if and only if the least line divides it.
                self.assertEqual(self.value_at(field, least, number), ())
                self.assertTrue(does_divide(below, least, full))
                for part in self.shorter(below, least):
                    self.assertNotEqual(self.value_at(field, part, number), ())
                if len(number) <= 1:
                    self.assertEqual(len(least), 2)

    def shorter(self, below, least):
        """Return divisors of a line, that are told by its derivative and by small roots."""
        common = common_line(below, least, slope_of(below, least)) if len(least) > 2 else (number_of(below, 1, 1),)
        found = [divided_lines(below, least, common)[0]] if len(common) > 1 else []
        found.append((number_of(below, 1, 1),))
        for k in (-2, -1, 0, 1, 2):
            part = (number_of(below, k, 1), number_of(below, 1, 1))
            if does_divide(below, part, least):
                found.append(divided_lines(below, least, part)[0])
        return found

    def value_at(self, field, line, number):
        """Return the value, in a root field, of a line over the field below at a number."""
        raised = tuple(() if part == number_of(field[1], 0, 1) else (part,) for part in line)
        return line_at(field, raised, number)

    def test_sums_and_products(self):
        """The trace of a sum is the sum of the traces, the norm of a product the product of the norms."""
        chance = chances(25)
        for field in FIELDS:
            numbers = self.numbers(chance, field)
            for one, other in zip(numbers, numbers[1:] + numbers[:1]):
                below = field[1]
                total = number_plus(below, trace_of(field, one), trace_of(field, other))
                self.assertEqual(trace_of(field, number_plus(field, one, other)), total)
                product = number_times(below, norm_of(field, one), norm_of(field, other))
                self.assertEqual(norm_of(field, number_times(field, one, other)), product)

    def test_lines_that_can_not_be_split(self):
        """There the full line is the least line to the power of the degrees."""
        cube = ("root", 0, ((-2, 1),) + ((0, 1),) * 5 + ((1, 1),))
        for number, degree in ((((3, 1),), 1), (((0, 1), (0, 1), (1, 1)), 3), (((0, 1),) * 3 + ((1, 1),), 2), (((1, 1), (1, 1)), 6)):
            least, full = least_line(cube, number), full_line(cube, number)
            self.assertEqual(len(least), degree + 1)
            product = ((1, 1),)
            for _ in range(6 // degree):
                product = line_times(0, product, least)
            self.assertEqual(full, product)

    def test_lines_that_can_be_split(self):
        twice = ("root", 0, ((1, 1), (-2, 1), (1, 1)))
        self.assertEqual(least_line(twice, ((0, 1), (1, 1))), ((1, 1), (-2, 1), (1, 1)))
        self.assertEqual(least_line(twice, ((5, 1),)), ((-5, 1), (1, 1)))
        apart = ("root", 0, ((-1, 1), (0, 1), (1, 1)))
        self.assertEqual(least_line(apart, ((1, 1), (1, 1))), ((0, 1), (-2, 1), (1, 1)))
        self.assertEqual(norm_of(apart, ((1, 1), (1, 1))), (0, 1))
        thrice = ("root", 0, ((0, 1), (0, 1), (0, 1), (1, 1)))
        self.assertEqual(least_line(thrice, ((0, 1), (1, 1))), ((0, 1), (0, 1), (0, 1), (1, 1)))
        self.assertEqual(least_line(thrice, ((0, 1), (0, 1), (1, 1))), ((0, 1), (0, 1), (1, 1)))
        self.assertEqual(full_line(thrice, ((0, 1), (0, 1), (1, 1))), ((0, 1), (0, 1), (0, 1), (1, 1)))

    def test_great_fields(self):
        chance = chances(26)
        line = tuple((chance.randint(-GREATEST, GREATEST), 1) for _ in range(8)) + ((1, 1),)
        number = tuple((chance.randint(-GREATEST, GREATEST), 1) for _ in range(8))
        field = ("root", 0, line)
        full = full_line(field, number)
        self.assertEqual((full[0], full[-2]), (norm_of(field, number), (-trace_of(field, number)[0], 1)))
        self.assertEqual(least_line(field, number), full)
        long = ("root", 0, ((-1, 1),) + ((1, 1),) * 59 + ((1, 1),))
        self.assertEqual(trace_of(long, ((0, 1), (1, 1))), (-1, 1))
        self.assertEqual(full_line(long, ((0, 1), (1, 1))), long[2])
        self.assertEqual(len(table_of(long, ((0, 1), (1, 1)))), 60)
        self.assertEqual(norm_of(long, ((0, 1), (1, 1))), (-1, 1))

    def test_wrong_arguments(self):
        no_fields = [0, 2, X, ("quot", R), ("root", 5, (2, 0, 1)), ("root", ("quot", 5), (((1,), (1,)), ((1,), (1,))))]
        no_fields += [("root", 0, ((1, 1),)), ("root", 0, ((1, 1), (2, 1))), ("root", 4, (1, 1)), ("root", 0, ((2, 2), (1, 1)))]
        for function in (table_of, trace_of, norm_of, full_line, least_line):
            self.refuses_fields(function, ())
            self.refuses_all(InvalidField, function, (), no_fields, (None,))
            for field in (R, FIELDS[4], FIELDS[7]):
                wrong = [value for value in any_values() if not is_number(field, value)] + [((1, 1),) * 3, ((0, 1),), (1, 1), ((2, 2),)]
                self.refuses_all(InvalidNumber, function, (field,), wrong)
            self.refused(InvalidNumber, function, R, ((GREATEST + 1, 1),))

    def test_each_name_is_defined_here(self):
        for name in "table_of trace_of norm_of full_line least_line".split():
            self.assertEqual(getattr(rootthings, name).__module__, "towerback.rootthings")


if __name__ == "__main__":
    unittest.main()
