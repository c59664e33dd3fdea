"""Answers: things and sums over the roots of lines, as terms and as texts."""

from towerback.forms import is_given_line, is_given_number, is_monic, is_pair
from towerback.rawroots import field_with
from towerback.rawtowers import tower_field
from towerback.rawways import line_negated, nought_of
from towerback.rootsums import MOST_SUMS
from towerback.termback import begins_below, field_with_unknowns, need_tellable, need_told, told_line, told_number
from towerback.termback import unknowns_of
from towerback.termerrors import InvalidAnswer
from towerback.termwriting import text_of
from towerback.towers import need_tower

LONGEST_OF_ROOTS = 13
THE_ROOT = ("name", "c")


def is_sum_over_roots(tower, value):
    """Tell whether any value is a sum over roots of a tower, as it can be handed in."""
    if not is_pair(value) or not is_given_line(0, value[0]) or not is_monic(0, value[0]) or value[1] == ():
        return False
    return len(value[0]) <= LONGEST_OF_ROOTS and is_given_number(field_with(tower_field(tower), value[0]), value[1])


def is_plain_answer(tower, value):
    """Tell whether any value is an answer of a tower, as it can be handed in."""
    if not is_pair(value) or not is_given_number(tower_field(tower), value[0]) or not isinstance(value[1], tuple):
        return False
    return len(value[1]) <= MOST_SUMS and all(is_sum_over_roots(tower, part) for part in value[1])


def need_answer(tower, answer):
    """Raise the errors of a tower and of an answer of it that can be told."""
    need_tower(tower)
    if not is_plain_answer(tower, answer):
        raise InvalidAnswer("this is no answer of the tower")
    values = [answer[0]] + [step[1] for step in tower]
    for root_line, line in answer[1]:
        values.extend([root_line, line])
    need_tellable(values)


def told_logarithm(unknowns, line):
    """Return the term of the logarithm of a line, not nought, in the last one of some unknowns."""
    below = unknowns[:-1]
    if begins_below(below, line[-1]):
        field = field_with_unknowns(len(below))
        return "log", ("negative", told_line(unknowns, line_negated(field, line)))
    return "log", told_line(unknowns, line)


def told_root_sum(unknowns, root_line, line):
    """Return (is below, term) of a sum over the one root of a line: whether it comes with minus, and its term."""
    logarithm = told_logarithm(unknowns + (THE_ROOT,), line)
    over, under = root_line[0]
    is_below = over > 0
    if under == 1 and over in (1, -1):
        return is_below, logarithm
    return is_below, ("times", told_number((), (abs(over), under)), logarithm)


def is_answer(tower, value):
    """Tell whether any value is an answer of a tower."""
    need_tower(tower)
    return is_plain_answer(tower, value)


def answer_term(tower, answer):
    """Return the term of an answer, or None if it has sums over the roots of lines with more than one root."""
    need_answer(tower, answer)
    thing, sums = answer
    if any([len(root_line) > 2 for root_line, _ in sums]):
        return None
    unknowns = unknowns_of(tower)
    found = told_number(unknowns, thing)
    for at, (root_line, line) in enumerate(sums):
        is_below, term = told_root_sum(unknowns, root_line, line)
        if at == 0 and thing == nought_of(tower_field(tower)):
            found = ("negative", term) if is_below else term
        else:
            found = ("minus" if is_below else "plus"), found, term
    return need_told(found)


def named_unknowns(tower):
    """Return the unknowns of a tower as names, each with its text: so this is written but once."""
    return tuple([("name", text_of(unknown)) for unknown in unknowns_of(tower)])


def sum_text(unknowns, root_line, line):
    """Return the text of a sum over roots, with the sign ahead of it."""
    if len(root_line) == 2:
        is_below, term = told_root_sum(unknowns, root_line, line)
        return ("-" if is_below else "+") + text_of(term)
    logarithm = text_of(told_logarithm(unknowns + (THE_ROOT,), line))
    return "+sum(c*" + logarithm + " for " + text_of(told_line((THE_ROOT,), root_line)) + "=0)"


def write_answer(tower, answer):
    """Return the text of an answer."""
    need_answer(tower, answer)
    thing, sums = answer
    unknowns = named_unknowns(tower)
    text = ""
    if thing != nought_of(tower_field(tower)) or not sums:
        text = text_of(told_number(unknowns, thing))
    for root_line, line in sums:
        text += sum_text(unknowns, root_line, line)
    return text[1:] if text[:1] == "+" else text
