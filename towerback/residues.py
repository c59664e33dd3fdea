"""Residues of quotients of lines in the last unknown of a tower, as the roots of a line."""

from towerback.errors import NotNormal, NotProper
from towerback.forms import is_monic
from towerback.needs import need_line
from towerback.pencils import pencil_chain, pencil_line
from towerback.rawroots import fraction_of
from towerback.rawsums import below_of
from towerback.rawtowers import derived_line
from towerback.rawways import lines_common
from towerback.towers import need_tower

HIGHEST_UNDER = 12


def need_quotient(tower, over, under):
    """Raise the errors of a tower, and of two lines in its last unknown that must be a quotient."""
    need_tower(tower)
    below = below_of(tower)
    need_line(below, over)
    need_line(below, under)
    if not is_monic(below, under) or len(under) > HIGHEST_UNDER + 1 or len(over) >= len(under):
        raise NotProper("the degree, the last number or the length is not as it must be")
    if not is_normal_line(tower, under):
        raise NotNormal("the under has a common divisor with its derivative")


def is_normal_line(tower, line):
    """Tell whether a line in the last unknown, not nought, has no common divisor with its derivative."""
    return len(lines_common(below_of(tower), line, derived_line(tower, line))) == 1


def residue_chain(tower, over, under):
    """Return the pair (integer, chain) of the under, and of the over less z times the derivative of the under."""
    return pencil_chain(below_of(tower), under, over, derived_line(tower, under))


def flaw_of(field, line):
    """Return the least index of a number of a line over a field that is no constant, or None."""
    for at, number in enumerate(line):
        if fraction_of(field, number) is None:
            return at
    return None


def residue_line(tower, over, under):
    """Return the residue line of a quotient."""
    need_quotient(tower, over, under)
    point, chain = residue_chain(tower, over, under)
    return pencil_line(below_of(tower), point, chain)


def residue_flaw(tower, over, under):
    """Return the least flaw of the residue line of a quotient, or None."""
    need_quotient(tower, over, under)
    point, chain = residue_chain(tower, over, under)
    below = below_of(tower)
    return flaw_of(below, pencil_line(below, point, chain))
