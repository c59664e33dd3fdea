"""Square-free parts of lines, with papers."""

from towerback.chains import common_rows
from towerback.errors import UnfitField
from towerback.forms import are_lines, has_line_form, has_number_form, is_monic
from towerback.integers import is_integer_in
from towerback.linegcd import come_to
from towerback.needs import need_field, need_filled_line, need_line
from towerback.nestedcommon import bottom_of
from towerback.rawlines import line_slope, lines_power
from towerback.rawways import lines_common, lines_exact, lines_times, monic_of, nought_of, one_of


def need_fit_field(field):
    """Raise InvalidField for what is no field, UnfitField for a field of quotients or roots over a prime."""
    need_field(field)
    if isinstance(field, tuple) and bottom_of(field):
        raise UnfitField("the field is built over a prime")


def need_fit_line(field, line):
    """Raise the errors of a field that is fit, and of a line over it that must not be nought."""
    need_fit_field(field)
    need_filled_line(field, line)


def root_of_power(prime, line):
    """Return the line over a prime field whose power by the prime a line is, or None."""
    if any([number for at, number in enumerate(line) if at % prime]):
        return None
    # Each number of a prime field is its own power by the prime.
    return line[::prime]


def power_root(field, line):
    """Return the line whose power by the prime, that is the field, a line is, or None; None for other fields."""
    need_fit_field(field)
    need_line(field, line)
    return root_of_power(field, line) if isinstance(field, int) and field else None


def parts_of_monic(field, line):
    """Return the list of the square-free parts of a monic line."""
    left = lines_common(field, line, line_slope(field, line))
    parts = lines_exact(field, line, left)
    found = []
    times = 1
    while len(parts) > 1:
        more = lines_common(field, parts, left)
        if len(more) < len(parts):
            found.append((lines_exact(field, parts, more), times))
        parts, left = more, lines_exact(field, left, more)
        times += 1
    if len(left) > 1:
        # What is left has no derivative: its parts have times that the prime divides.
        root = root_of_power(field, left)
        found.extend([(part, times * field) for part, times in parts_of_monic(field, root)])
    return found


def split_line(field, line):
    """Return the pair of the last number and of the tuple of the square-free parts of a line that is not nought."""
    parts = parts_of_monic(field, monic_of(field, line))
    return line[-1], tuple(sorted(parts, key=times_of))


def times_of(row):
    """Return how often a square-free part divides its line."""
    return row[1]


def product_of_parts(field, parts):
    """Return the product of all square-free parts, each once: the radical line."""
    product = (one_of(field),)
    for part, _ in parts:
        product = lines_times(field, product, part)
    return product


def squarefree_of(field, line):
    """Return the paper (number, parts, u, v) of the square-free parts of a line that is not nought."""
    number, parts = split_line(field, line)
    radical = product_of_parts(field, parts)
    return (number, parts) + common_rows(field, radical, line_slope(field, radical))[1:3]


def squarefree_parts(field, line):
    """Return the pair of the last number and of the tuple of the square-free parts of a line."""
    need_fit_line(field, line)
    return split_line(field, line)


def radical_line(field, line):
    """Return the product of all square-free parts of a line, each once."""
    need_fit_line(field, line)
    return product_of_parts(field, split_line(field, line)[1])


def squarefree_paper(field, line):
    """Return the paper (number, parts, u, v) of the square-free parts of a line."""
    need_fit_line(field, line)
    return squarefree_of(field, line)


def is_squarefree_paper(field, line, value):
    """Tell whether any value is a paper of the square-free parts of a line."""
    need_fit_line(field, line)
    return shows_squarefree(field, line, value)


def are_parts(field, value, degree):
    """Tell whether any value is a tuple of pairs (monic line, times), by ascending times, of a degree in all."""
    if not isinstance(value, tuple):
        return False
    last = 0
    for row in value:
        if not isinstance(row, tuple) or len(row) != 2 or not is_integer_in(row[1], last + 1, degree):
            return False
        if not has_line_form(field, row[0]) or not is_monic(field, row[0]):
            return False
        last = row[1]
        degree -= last * (len(row[0]) - 1)
    return degree == 0


def shows_squarefree(field, line, value):
    """Tell whether any value is a paper of the square-free parts of a line that is not nought."""
    if not isinstance(value, tuple) or len(value) != 4 or not are_lines(field, value[2:], 2):
        return False
    number, parts, first, second = value
    if not has_number_form(field, number) or not are_parts(field, parts, len(line) - 1):
        return False
    product = (number,)
    for part, times in parts:
        product = lines_times(field, product, lines_power(field, part, times))
    if number == nought_of(field) or product != line:
        return False
    radical = product_of_parts(field, parts)
    return come_to(field, (first, radical), (second, line_slope(field, radical)), (one_of(field),))
