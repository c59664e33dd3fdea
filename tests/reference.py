"""Plain arithmetic in all fields, by Euclid's way alone, against which the package is held.

Each class here is a field; its numbers are fractions, integers, pairs and tuples.
"""

from fractions import Fraction


class Rationals:
    zero, one = Fraction(0), Fraction(1)

    def add(self, a, b):
        return a + b

    def negative(self, a):
        return -a

    def times(self, a, b):
        return a * b

    def inverse(self, a):
        return 1 / a

    def told(self, a):
        return a.numerator, a.denominator

    def read(self, value):
        return Fraction(*value)


class Prime:
    zero, one = 0, 1

    def __init__(self, prime):
        self.prime = prime

    def add(self, a, b):
        return (a + b) % self.prime

    def negative(self, a):
        return -a % self.prime

    def times(self, a, b):
        return a * b % self.prime

    def inverse(self, a):
        return pow(a, -1, self.prime)

    def told(self, a):
        return a

    def read(self, value):
        return value


class Lines:
    """Lines over a field, as tuples of its numbers."""

    def __init__(self, field):
        self.field = field

    def trimmed(self, line):
        line = list(line)
        while line and line[-1] == self.field.zero:
            line.pop()
        return tuple(line)

    def add(self, a, b):
        many = max(len(a), len(b))
        a = a + (self.field.zero,) * (many - len(a))
        b = b + (self.field.zero,) * (many - len(b))
        return self.trimmed(self.field.add(x, y) for x, y in zip(a, b))

    def negative(self, a):
        return tuple(self.field.negative(x) for x in a)

    def times(self, a, b):
        sums = [self.field.zero] * (len(a) + len(b))
        for i, x in enumerate(a):
            for j, y in enumerate(b):
                sums[i + j] = self.field.add(sums[i + j], self.field.times(x, y))
        return self.trimmed(sums)

    def scaled(self, a, number):
        return self.trimmed(self.field.times(x, number) for x in a)

    def divided(self, a, b):
        rest, inverse = list(a), self.field.inverse(b[-1])
        quotient = [self.field.zero] * max(0, len(a) - len(b) + 1)
        for k in range(len(a) - len(b), -1, -1):
            quotient[k] = self.field.times(rest[k + len(b) - 1], inverse)
            for i, y in enumerate(b):
                rest[k + i] = self.field.add(rest[k + i], self.field.negative(self.field.times(quotient[k], y)))
        return self.trimmed(quotient), self.trimmed(rest)

    def monic(self, a):
        return self.scaled(a, self.field.inverse(a[-1])) if a else a

    def common(self, a, b):
        while b:
            a, b = b, self.monic(self.divided(a, b)[1])
        return self.monic(a)

    def told(self, a):
        return tuple(self.field.told(x) for x in a)

    def read(self, value):
        return tuple(self.field.read(x) for x in value)


class Quotients:
    def __init__(self, field):
        self.field, self.lines = field, Lines(field)
        self.zero, self.one = ((), (field.one,)), ((field.one,), (field.one,))

    def settled(self, over, under):
        common = self.lines.common(over, under)
        over, under = self.lines.divided(over, common)[0], self.lines.divided(under, common)[0]
        inverse = self.field.inverse(under[-1])
        return self.lines.scaled(over, inverse), self.lines.scaled(under, inverse)

    def add(self, a, b):
        over = self.lines.add(self.lines.times(a[0], b[1]), self.lines.times(b[0], a[1]))
        return self.settled(over, self.lines.times(a[1], b[1]))

    def negative(self, a):
        return self.lines.negative(a[0]), a[1]

    def times(self, a, b):
        return self.settled(self.lines.times(a[0], b[0]), self.lines.times(a[1], b[1]))

    def inverse(self, a):
        return self.settled(a[1], a[0])

    def told(self, a):
        return self.lines.told(a[0]), self.lines.told(a[1])

    def read(self, value):
        return self.lines.read(value[0]), self.lines.read(value[1])


class Roots:
    def __init__(self, field, line):
        self.field, self.lines, self.line = field, Lines(field), line
        self.zero, self.one = (), (field.one,)

    def add(self, a, b):
        return self.lines.add(a, b)

    def negative(self, a):
        return self.lines.negative(a)

    def times(self, a, b):
        return self.lines.divided(self.lines.times(a, b), self.line)[1]

    def inverse(self, a):
        """Return the inverse, None for a number that has none."""
        lines, row, behind = self.lines, (self.line, ()), (a, (self.field.one,))
        while behind[0]:
            quotient, rest = lines.divided(row[0], behind[0])
            step = lines.negative(lines.times(quotient, behind[1]))
            row, behind = behind, (rest, lines.add(row[1], step))
        if len(row[0]) > 1:
            return None
        return lines.scaled(row[1], self.field.inverse(row[0][0]))

    def told(self, a):
        return self.lines.told(a)

    def read(self, value):
        return self.lines.read(value)


def field_for(value):
    """Return the plain field for a field of the package."""
    if isinstance(value, int):
        return Prime(value) if value else Rationals()
    inner = field_for(value[1])
    return Quotients(inner) if value[0] == "quot" else Roots(inner, Lines(inner).read(value[2]))
