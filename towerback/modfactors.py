"""Lines over a prime field split into parts that can not be split, with papers."""

from towerback.degreeparts import degree_paper_of, need_square_free, split_by_degrees
from towerback.errors import InvalidLine
from towerback.keptlines import apart_by, basis_of
from towerback.modlines import mod_common, mod_divided, mod_monic
from towerback.needs import need_monic, need_prime, need_short_line
from towerback.rawlines import line_slope
from towerback.squarefree import split_line


def need_filled_short(prime, line):
    """Raise the errors of a prime, and of a line over its field that must not be nought."""
    need_prime(prime)
    need_short_line(prime, line)
    if line == ():
        raise InvalidLine("the line is nought")


def split_by_kept(prime, found, degree, kept):
    """Return the divisors into which a kept line tells divisors apart, those of a degree staying what they are."""
    told = []
    for part in found:
        if len(part) - 1 == degree:
            told.append(part)
        else:
            rest = mod_divided(prime, kept, part)[1]
            told.extend([divisor for _, divisor in apart_by(prime, part, rest)])
    return told


def parts_of_degree(prime, line, degree):
    """Return the list of the parts of a square-free monic line all of whose parts have one degree."""
    found = [line]
    many = (len(line) - 1) // degree
    if many == 1:
        return found
    for kept in basis_of(prime, line)[1:]:
        found = split_by_kept(prime, found, degree, kept)
        if len(found) == many:
            break
    return found


def parts_of_square_free(prime, line):
    """Return the ascending list of the parts of a square-free monic line."""
    found = []
    for degree, product in split_by_degrees(prime, line):
        found.extend(parts_of_degree(prime, product, degree))
    return sorted(found)


def parts_of(prime, line):
    """Return the ascending tuple of the parts of a square-free monic line."""
    need_square_free(prime, line)
    return tuple(parts_of_square_free(prime, line))


def counted_parts(prime, line):
    """Return the ascending tuple of the pairs (part, times) of all parts of a line that is not nought."""
    found = []
    for product, times in split_line(prime, line)[1]:
        found.extend([(part, times) for part in parts_of_square_free(prime, product)])
    return tuple(sorted(found))


def unsplit_papers(prime, parts):
    """Return the tuple of the unsplit papers of monic lines that can not be split."""
    return tuple(degree_paper_of(prime, part, len(part) - 1) for part in parts)


def is_unsplit_line(prime, line):
    """Tell whether a monic line can not be split."""
    if len(line) == 2:
        return True
    if len(mod_common(prime, line, line_slope(prime, line))) > 1:
        return False
    return split_by_degrees(prime, line)[0][0] == len(line) - 1


def is_unsplit(prime, line):
    """Tell whether a monic line can not be split."""
    need_monic(prime, line)
    return is_unsplit_line(prime, line)


def unsplit_paper(prime, line):
    """Return an unsplit paper of a monic line, or None if it can be split."""
    need_monic(prime, line)
    return degree_paper_of(prime, line, len(line) - 1)


def split_paper(prime, line):
    """Return a split paper of a monic line, or None if it can not be split."""
    need_monic(prime, line)
    first = counted_parts(prime, line)[0][0]
    if first == line:
        return None
    return first, mod_divided(prime, line, first)[0]


def factors_mod(prime, line):
    """Return the pair of the last number and of the tuple of the pairs (part, times) of all parts of a line."""
    need_filled_short(prime, line)
    return line[-1], counted_parts(prime, mod_monic(prime, line))


def parts_paper(prime, line):
    """Return a parts paper of a line that is not nought."""
    need_filled_short(prime, line)
    rows = []
    for part, times in counted_parts(prime, mod_monic(prime, line)):
        rows.append((part, times, degree_paper_of(prime, part, len(part) - 1)))
    return line[-1], tuple(rows)
