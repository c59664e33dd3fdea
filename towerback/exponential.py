"""Sums of powers of an exponential: what they are the derivative of, or papers that it is nothing of the kind."""

from towerback.forms import has_number_form
from towerback.integers import is_integer_in, is_tagged
from towerback.needs import need_integer, need_line
from towerback.rational import plain_integral
from towerback.rawsums import derived_sums
from towerback.rawtowers import FUNCTIONS, derived_number, lifted_number
from towerback.rawways import multiple, nought_of, one_of, plus, trimmed_line
from towerback.rischsolve import plain_risch, shows_risch
from towerback.rootsums import are_root_sums
from towerback.stepneeds import HIGHEST_OF_LINE, THINGS, need_inner, need_short_function, need_short_lines
from towerback.stepparts import plain_thing_of_parts


def thing_of_row(low, row):
    """Return the sum of the numbers of a row times powers of an exponential from a low one on."""
    return plain_thing_of_parts(low, trimmed_line(FUNCTIONS, row), (), (one_of(FUNCTIONS),))


def plain_exp_line(inner, low, row):
    """Return a paper of powers of an exponential; TooMany if what goes with the power 0 is too long."""
    found = [nought_of(FUNCTIONS)] * len(row)
    for at, number in enumerate(row):
        power = low + at
        if power != 0 and number != nought_of(FUNCTIONS):
            paper = plain_risch(multiple(FUNCTIONS, inner, power), number)
            if paper[0] == "no":
                return "no", power, paper
            found[at] = paper[1]
    if len(row) <= -low:
        return "yes", thing_of_row(low, found), ()
    found[-low], sums = plain_integral(row[-low])
    return "yes", thing_of_row(low, found), sums


def shows_exp_flaw(inner, low, row, value):
    """Tell whether any value (word, i, paper) tells where powers of an exponential are no derivative."""
    _, power, paper = value
    if not is_integer_in(power, low, low + len(row) - 1) or power == 0 or not is_tagged(paper, "no", 4):
        return False
    return shows_risch(multiple(FUNCTIONS, inner, power), row[power - low], paper)


def shows_exp_line(inner, low, row, value):
    """Tell whether any value is a paper of powers of an exponential."""
    if is_tagged(value, "no", 3):
        return shows_exp_flaw(inner, low, row, value)
    if not is_tagged(value, "yes", 3) or not has_number_form(THINGS, value[1]) or not are_root_sums((), value[2]):
        return False
    tower = (("exp", inner),)
    found = plus(THINGS, derived_number(tower, value[1]), lifted_number(tower, derived_sums((), value[2])))
    return found == thing_of_row(low, row)


def need_exp_line(inner, low, row):
    """Raise the errors of an inner function, of a lowest power and of a line over X."""
    need_inner(inner)
    need_integer(low, -HIGHEST_OF_LINE, 0)
    need_line(FUNCTIONS, row)
    need_short_function(inner)
    need_short_lines((row,))


def exp_line_paper(u, low, row):
    """Return a paper of powers of an exponential."""
    need_exp_line(u, low, row)
    return plain_exp_line(u, low, row)


def takes_exp_line(u, low, row, value):
    """Tell whether any value is a paper of powers of an exponential."""
    need_exp_line(u, low, row)
    return shows_exp_line(u, low, row, value)
