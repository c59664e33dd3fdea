"""Lines that are the rests of their own powers by the prime, by a monic line over a prime field."""

from towerback.elimination import reduced_rows
from towerback.errors import InvalidLine
from towerback.forms import has_line_form
from towerback.lineroots import numbers_at_nought
from towerback.modlines import mod_common, mod_plus, trimmed
from towerback.needs import need_monic
from towerback.rawlines import rest_power
from towerback.rawtables import kernel_rows
from towerback.rawways import lines_divided, lines_times


def is_kept_line(prime, line, value):
    """Tell whether any value is a kept line of a monic line."""
    if not isinstance(value, tuple) or len(value) >= len(line) or not has_line_form(prime, value):
        return False
    return rest_power(prime, value, prime, line) == value


def is_kept(prime, line, value):
    """Tell whether any value is a kept line of a monic line."""
    need_monic(prime, line)
    return is_kept_line(prime, line, value)


def rests_of_powers(prime, line, other, many):
    """Return the list of the rests, by a monic line, of so many powers of another line, from that with 0 on."""
    rests = [(1,)]
    for _ in range(many - 1):
        rests.append(lines_divided(prime, lines_times(prime, rests[-1], other), line)[1])
    return rests


def kernel_of_lines(prime, lines, many):
    """Return the tuple of the rows of numbers, by which lines of so many numbers at most come to nought."""
    filled = [line + (0,) * (many - len(line)) for line in lines]
    table = [tuple([numbers[at] for numbers in filled]) for at in range(many)]
    leads, reduced = reduced_rows(prime, table, len(lines))
    return kernel_rows(prime, leads, reduced, len(lines))


def basis_of(prime, line):
    """Return the basis of the kept lines of a monic line."""
    many = len(line) - 1
    step = rest_power(prime, (0, 1), prime, line)
    moved = []
    for at, rest in enumerate(rests_of_powers(prime, line, step, many)):
        moved.append(mod_plus(prime, rest, (0,) * at + (prime - 1,)))
    kernel = kernel_of_lines(prime, moved, many)
    return tuple([trimmed(row) for row in reduced_rows(prime, kernel, many)[1]])


def kept_lines(prime, line):
    """Return the basis of the kept lines of a monic line."""
    need_monic(prime, line)
    return basis_of(prime, line)


def least_relation(prime, line, other):
    """Return the shortest monic line in which another line leaves the rest nought by a monic one."""
    many = len(line) - 1
    return trimmed(kernel_of_lines(prime, rests_of_powers(prime, line, other, many + 1), many)[0])


def apart_by(prime, line, kept):
    """Return the list of the pairs (number, common divisor of a monic line and of a kept line less this number)."""
    found = []
    # The least relation is nought at just the numbers for which there is a divisor.
    for number in numbers_at_nought(prime, least_relation(prime, line, kept)):
        found.append((number, mod_common(prime, line, mod_plus(prime, kept, (-number % prime,)))))
    return found


def told_apart(prime, line, kept):
    """Return the list of the pairs (number, common divisor of a monic line and of a kept line less this number)."""
    need_monic(prime, line)
    if not is_kept_line(prime, line, kept):
        raise InvalidLine("this is no kept line")
    return apart_by(prime, line, kept)
