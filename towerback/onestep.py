"""Things of a tower of one step: what they are the derivative of, or papers that it is nothing of the kind."""

from towerback.exponential import plain_exp_line, shows_exp_flaw
from towerback.forms import has_line_form, has_number_form
from towerback.hermite import plain_hermite_paper, shows_hermite
from towerback.integers import is_tagged
from towerback.logarithmic import plain_log_line, shows_log_flaw
from towerback.logarithms import leftover_of, logarithms_of, residues_told
from towerback.rawsums import derived_sums
from towerback.rawtowers import FUNCTIONS, derived_line, derived_number, lifted_number
from towerback.rawways import lines_divided, lines_minus, lines_times, nought_of, one_of, plus
from towerback.rawways import trimmed_line
from towerback.rootsums import are_root_sums
from towerback.steadylines import is_steady
from towerback.stepneeds import THINGS, need_step_thing
from towerback.stepparts import plain_step_parts


def line_of_residues(base):
    """Return the line, shorter than the under of h, whose values at its roots are the residues, by a Hermite paper."""
    over, under = base[1]
    return lines_divided(FUNCTIONS, lines_times(FUNCTIONS, over, base[4]), under)[1]


def lifted_sums(tower, sums):
    """Return root sums of () as root sums of a tower."""
    found = []
    for root_line, line in sums:
        found.append((root_line, tuple([lifted_number(tower, number) for number in line])))
    return tuple(found)


def with_number(low, row, number):
    """Return a row of numbers, from the power low on, with a number more at the power 0."""
    found = list(row) + [nought_of(FUNCTIONS)] * (1 - low - len(row))
    found[-low] = plus(FUNCTIONS, found[-low], number)
    return trimmed_line(FUNCTIONS, found)


def rest_paper(step, rest, number):
    """Return a paper of a thing without proper part and a rational function together, told as in the step's module."""
    low, row, _, _ = plain_step_parts(step, rest)
    row = with_number(low, row, number)
    if step[0] == "exp":
        return plain_exp_line(step[1], low, row)
    paper = plain_log_line(step[1], row)
    return ("yes", (paper[1], (one_of(FUNCTIONS),)), paper[2]) if paper[0] == "yes" else paper


def plain_one_step(step, thing):
    """Return a paper of a thing; TooMany if what is left at the level or power 0 is too long."""
    tower = (step,)
    base = plain_hermite_paper(tower, thing)
    found, plain, rest = base[:3]
    line = line_of_residues(base)
    if not is_steady(line, plain[1]):
        return "no", base, ("residue", line)
    told = residues_told(tower, plain[0], plain[1]) if plain[0] else None
    paper = rest_paper(step, rest, leftover_of(tower, told[1]) if told else nought_of(FUNCTIONS))
    if paper[0] == "no":
        return "no", base, ("power" if step[0] == "exp" else "level",) + paper[1:]
    sums = logarithms_of(tower, plain[0], plain[1], told[0], told[1]) if told else ()
    return "yes", plus(THINGS, found, paper[1]), sums + lifted_sums(tower, paper[2])


def shows_unsteady(step, plain, value):
    """Tell whether any value is a line that shows that the residues of a plain thing are no constants."""
    over, under = plain
    if not has_line_form(FUNCTIONS, value) or len(value) >= len(under):
        return False
    product = lines_times(FUNCTIONS, value, derived_line((step,), under))
    if lines_divided(FUNCTIONS, lines_minus(FUNCTIONS, product, over), under)[1]:
        return False
    return not is_steady(value, under)


def shows_why(step, base, value):
    """Tell whether any value shows of a thing's Hermite paper why the thing is no derivative."""
    if is_tagged(value, "residue", 2):
        return shows_unsteady(step, base[1], value[1])
    low, row, _, _ = plain_step_parts(step, base[2])
    if step[0] == "exp":
        return is_tagged(value, "power", 3) and shows_exp_flaw(step[1], low, row, value)
    return is_tagged(value, "level", 4) and shows_log_flaw(step[1], row, value)


def shows_one_step(step, thing, value):
    """Tell whether any value is a paper of a thing."""
    tower = (step,)
    if is_tagged(value, "no", 3):
        return shows_hermite(tower, thing, value[1]) and shows_why(step, value[1], value[2])
    if not is_tagged(value, "yes", 3) or not has_number_form(THINGS, value[1]) or not are_root_sums(tower, value[2]):
        return False
    return plus(THINGS, derived_number(tower, value[1]), derived_sums(tower, value[2])) == thing


def one_step_paper(step, thing):
    """Return a paper of a thing."""
    need_step_thing(step, thing)
    return plain_one_step(step, thing)


def takes_one_step(step, thing, value):
    """Tell whether any value is a paper of a thing."""
    need_step_thing(step, thing)
    return shows_one_step(step, thing, value)


def has_steady_residues(step, thing):
    """Tell whether the line of the residues of a thing is steady for its simple part's under."""
    need_step_thing(step, thing)
    base = plain_hermite_paper((step,), thing)
    return is_steady(line_of_residues(base), base[1][1])
