"""Logarithms of which a quotient of lines in the last unknown of a tower is the derivative, and what is left over."""

from towerback.nested import nested_constant, nested_digits
from towerback.pencils import pencil_line
from towerback.rawroots import field_with, fraction_of, raised, spread
from towerback.rawsums import below_of
from towerback.rawtowers import derived_line, derived_number, lifted_number
from towerback.rawways import inverted, line_scaled, lines_common, lines_divided, lines_minus, nought_of, times
from towerback.rawways import trimmed_line
from towerback.residues import flaw_of, need_quotient, residue_chain
from towerback.wholefactors import divisor_rows
from towerback.wholeforms import line_of_whole
from towerback.wholeways import cleared, monic_fractions


def constant_line(field, line):
    """Return the line over 0 of the fractions that the numbers of a line without a flaw are."""
    return tuple(fraction_of(field, number) for number in line)


def root_rows(line):
    """Return the list of the pairs (root line, times) of a line over 0, but for the unknown."""
    rows = []
    for part, many in divisor_rows(cleared(line)[1]):
        if part != (0, 1):
            rows.append((monic_fractions(part), many))
    return rows


def rational_common(tower, over, under, root):
    """Return the greatest common divisor of the under, and of the over less a fraction times its derivative."""
    below = below_of(tower)
    slope = line_scaled(below, derived_line(tower, under), raised(below, root))
    return lines_common(below, under, lines_minus(below, over, slope))


def line_in_chain(chain, index):
    """Return the subresultant with an index of a chain."""
    for row in chain:
        if row[0] == index:
            return row[1]
    return ()


def rooted_common(field, point, line):
    """Return the monic line, over a field with a root, that a subresultant becomes if the root stands for z."""
    below = field[1]
    numbers = []
    for value in line:
        digits = nested_digits(below, value, point)
        numbers.append(lines_divided(below, line_of_whole(below, digits, nested_constant(below, 1)), field[2])[1])
    return line_scaled(field, trimmed_line(field, numbers), inverted(field, numbers[-1]))


def logarithm(tower, over, under, told, root_row):
    """Return the root sum that goes with a root line, told being what residue_chain returns."""
    below = below_of(tower)
    root_line, many = root_row
    if many == len(under) - 1:
        rows = tuple((number,) if number != nought_of(below) else () for number in under)
    elif len(root_line) == 2:
        common = rational_common(tower, over, under, (-root_line[0][0], root_line[0][1]))
        rows = tuple((number,) if number != nought_of(below) else () for number in common)
    else:
        rows = rooted_common(field_with(below, root_line), told[0], line_in_chain(told[1], many))
    return root_line, spread(below, rows, len(root_line) - 1)


def residues_told(tower, over, under):
    """Return the pair of what residue_chain returns and of the residue line, or None if there is a flaw."""
    told = residue_chain(tower, over, under)
    line = pencil_line(below_of(tower), told[0], told[1])
    return None if flaw_of(below_of(tower), line) is not None else (told, line)


def logarithms_of(tower, over, under, told, line):
    """Return the logarithms of a quotient, from what residues_told returns."""
    rows = root_rows(constant_line(below_of(tower), line))
    return tuple(sorted([logarithm(tower, over, under, told, row) for row in rows]))


def leftover_of(tower, line):
    """Return the leftover of a quotient, from its residue line."""
    below = below_of(tower)
    if tower == () or tower[-1][0] == "log":
        return nought_of(below)
    # Above all, the derivative of a line by the line comes to its degree times that of the exponential's function.
    slope = lifted_number(tower[:-1], derived_number((), tower[-1][1]))
    return times(below, line[-2], slope)


def plain_logarithms(tower, over, under):
    """Return the logarithms of a quotient, or None if there is a flaw."""
    found = residues_told(tower, over, under)
    return None if found is None else logarithms_of(tower, over, under, found[0], found[1])


def plain_leftover(tower, over, under):
    """Return the leftover of a quotient, or None if there is a flaw."""
    found = residues_told(tower, over, under)
    return None if found is None else leftover_of(tower, found[1])


def logarithms(tower, over, under):
    """Return the logarithms of a quotient, or None if there is a flaw."""
    need_quotient(tower, over, under)
    return plain_logarithms(tower, over, under)


def leftover(tower, over, under):
    """Return the leftover of a quotient, or None if there is a flaw."""
    need_quotient(tower, over, under)
    return plain_leftover(tower, over, under)
