"""Logarithms and exponentials that are let, their parts, and relations between them."""

from towerback.elimination import reduced_rows
from towerback.errors import InvalidMaker, TooMany
from towerback.forms import is_given_number
from towerback.rawsums import common_under
from towerback.rawtables import kernel_rows
from towerback.rawtowers import FUNCTIONS
from towerback.rawways import lines_divided, lines_exact, lines_times, nought_of
from towerback.wholefactors import divisor_rows
from towerback.wholeforms import whole_line
from towerback.wholeways import cleared

MOST_NUMBERS = 6
HIGHEST_SPLIT = 12


def is_log_let(number):
    """Tell whether the logarithm of a rational function is let."""
    return number[0] != () and cleared(number[0])[0] == cleared(number[1])[0]


def is_exp_let(number):
    """Tell whether the exponential of a rational function is let."""
    return lines_divided(0, number[0], number[1])[0][:1] in ((), (nought_of(0),))


def need_log_let(number):
    """Raise InvalidMaker for what is no rational function whose logarithm is let."""
    if not is_given_number(FUNCTIONS, number) or not is_log_let(number):
        raise InvalidMaker("this is no rational function whose logarithm is let")


def need_exp_let(number):
    """Raise InvalidMaker for what is no rational function whose exponential is let."""
    if not is_given_number(FUNCTIONS, number) or not is_exp_let(number):
        raise InvalidMaker("this is no rational function whose exponential is let")


def need_few(numbers):
    """Raise InvalidMaker for what is no tuple, or a too long one."""
    if not isinstance(numbers, tuple) or len(numbers) > MOST_NUMBERS:
        raise InvalidMaker("this is no tuple of rational functions, or a too long one")


def need_exps_let(numbers):
    """Raise InvalidMaker for what is no tuple of rational functions whose exponentials are let."""
    need_few(numbers)
    for number in numbers:
        need_exp_let(number)


def need_splittable(numbers):
    """Raise TooMany if a line in one of some rational functions is too long to be split."""
    for number in numbers:
        if len(number[0]) > HIGHEST_SPLIT + 1 or len(number[1]) > HIGHEST_SPLIT + 1:
            raise TooMany(HIGHEST_SPLIT)


def plain_log_parts(number):
    """Return the ascending tuple of the parts of a rational function whose logarithm is let."""
    above = divisor_rows(cleared(number[0])[1])
    below = divisor_rows(cleared(number[1])[1])
    return tuple(sorted(above + [(line, -power) for line, power in below]))


def power_of_part(parts, line):
    """Return the fraction that tells how often a line stands among parts."""
    for part, power in parts:
        if part == line:
            return power, 1
    return 0, 1


def lines_over(numbers):
    """Return (u, lines): the monic least common multiple of the unders, and rational functions as lines over it."""
    under = common_under(0, [number[1] for number in numbers])
    return under, [lines_times(0, number[0], lines_exact(0, under, number[1])) for number in numbers]


def whole_relation(rows, many):
    """Return a tuple of so many integers, not all 0, by which each row of fractions comes to 0, or None."""
    leads, reduced = reduced_rows(0, rows, many)
    kernel = kernel_rows(0, leads, reduced, many)
    return whole_line(0, kernel[0])[0] if kernel else None


def log_parts(number):
    """Return the ascending tuple of the parts of a rational function whose logarithm is let."""
    need_log_let(number)
    need_splittable((number,))
    return plain_log_parts(number)


def log_relation(numbers):
    """Return any tuple of integers, not all 0, to whose powers the product of rational functions is 1, or None."""
    need_few(numbers)
    for number in numbers:
        need_log_let(number)
    need_splittable(numbers)
    parts = [plain_log_parts(number) for number in numbers]
    lines = sorted(set([line for rows in parts for line, _ in rows]))
    return whole_relation([tuple([power_of_part(rows, line) for rows in parts]) for line in lines], len(numbers))


def exp_relation(numbers):
    """Return any tuple of integers, not all 0, times which the sum of rational functions is nought, or None."""
    need_exps_let(numbers)
    lines = lines_over(numbers)[1]
    rows = []
    for power in range(max([len(line) for line in lines], default=0)):
        rows.append(tuple([line[power] if power < len(line) else nought_of(0) for line in lines]))
    return whole_relation(rows, len(numbers))
