"""Lines in a logarithm: what they are the derivative of, or papers that it is nothing of the kind."""

from towerback.forms import has_line_form
from towerback.integers import is_integer_in, is_tagged
from towerback.limited import logarithm_slope, plain_limited, shows_limited
from towerback.needs import need_line
from towerback.rational import plain_integral
from towerback.rawroots import raised
from towerback.rawsums import derived_sums
from towerback.rawtowers import FUNCTIONS, derived_line
from towerback.rawways import lines_plus, minus, multiple, nought_of, plus, times, trimmed_line
from towerback.rootsums import are_root_sums
from towerback.stepneeds import need_inner, need_short_function, need_short_lines


def left_below(slope, number, at, part):
    """Return what is left of a number, part being the b of the index at, one higher."""
    return minus(FUNCTIONS, number, times(FUNCTIONS, multiple(FUNCTIONS, part, at), slope))


def line_of_pairs(rational, pairs):
    """Return the line over X with the derivative told by pairs (b, c), from the highest index down to 1."""
    found = [nought_of(FUNCTIONS)] * (len(pairs) + 2)
    found[0] = rational
    for above, (part, share) in enumerate(pairs):
        at = len(pairs) - above
        found[at] = plus(FUNCTIONS, found[at], part)
        found[at + 1] = plus(FUNCTIONS, found[at + 1], raised(FUNCTIONS, (share[0], share[1] * (at + 1))))
    return trimmed_line(FUNCTIONS, found)


def plain_log_line(inner, line):
    """Return a paper of a line in the logarithm of an inner function; TooMany if what is left below is too long."""
    slope = logarithm_slope(inner)
    pairs = []
    left = line[-1] if line else nought_of(FUNCTIONS)
    for at in reversed(range(1, len(line))):
        paper = plain_limited(inner, left)
        if paper[0] == "no":
            return "no", at, tuple(pairs), paper
        pairs.append(paper[1:])
        left = left_below(slope, line[at - 1], at, paper[1])
    rational, sums = plain_integral(left)
    return "yes", line_of_pairs(rational, pairs), sums


def shows_log_flaw(inner, line, value):
    """Tell whether any value (word, i, pairs, paper) tells where a line in a logarithm is no derivative."""
    _, index, pairs, paper = value
    if not is_integer_in(index, 1, len(line) - 1) or not isinstance(pairs, tuple):
        return False
    if len(pairs) != len(line) - 1 - index or not is_tagged(paper, "no", 3):
        return False
    slope = logarithm_slope(inner)
    left = line[-1]
    for above, pair in enumerate(pairs):
        if not isinstance(pair, tuple) or not shows_limited(inner, left, ("yes",) + pair):
            return False
        at = len(line) - 1 - above
        left = left_below(slope, line[at - 1], at, pair[0])
    return shows_limited(inner, left, paper)


def shows_log_line(inner, line, value):
    """Tell whether any value is a paper of a line in the logarithm of an inner function."""
    if is_tagged(value, "no", 4):
        return shows_log_flaw(inner, line, value)
    if not is_tagged(value, "yes", 3) or not has_line_form(FUNCTIONS, value[1]) or not are_root_sums((), value[2]):
        return False
    found = derived_line((("log", inner),), value[1])
    return lines_plus(FUNCTIONS, found, trimmed_line(FUNCTIONS, [derived_sums((), value[2])])) == line


def need_log_line(inner, line):
    """Raise the errors of an inner function and of a line over X."""
    need_inner(inner)
    need_line(FUNCTIONS, line)
    need_short_function(inner)
    need_short_lines((line,))


def log_line_paper(u, line):
    """Return a paper of a line in the logarithm of an inner function."""
    need_log_line(u, line)
    return plain_log_line(u, line)


def takes_log_line(u, line, value):
    """Tell whether any value is a paper of a line in the logarithm of an inner function."""
    need_log_line(u, line)
    return shows_log_line(u, line, value)
