"""Things of a tower of one step as sums of powers of its unknown, and of a proper quotient."""

from towerback.errors import ByNought, InvalidNumber
from towerback.needs import need_integer, need_line
from towerback.parted import three_parts, unknown_power
from towerback.rawtowers import FUNCTIONS
from towerback.rawways import nought_of, plus, settled
from towerback.stepneeds import HIGHEST_OF_LINE, THINGS, need_short_function, need_short_lines, need_step
from towerback.stepneeds import need_step_thing


def plain_step_parts(step, thing):
    """Return the parts of a thing of a tower of one step."""
    line, special, power, over, under = three_parts((step,), thing)
    if power == 0:
        return 0, line, over, under
    filled = special + (nought_of(FUNCTIONS),) * (power - len(special)) if line else special
    return -power, filled + line, over, under


def plain_thing_of_parts(low, row, over, under):
    """Return the sum of the numbers of a row times powers of the unknown from a low one on, and of a quotient."""
    thing = settled(FUNCTIONS, row, unknown_power(FUNCTIONS, -low))
    return plus(THINGS, thing, settled(FUNCTIONS, over, under))


def need_low(step, low):
    """Raise InvalidNumber for what is no lowest power that goes with a step."""
    need_integer(low, -HIGHEST_OF_LINE, 0)
    if low and step[0] == "log":
        raise InvalidNumber("with a logarithm there are no powers below 0")


def step_parts(step, thing):
    """Return the parts of a thing of a tower of one step."""
    need_step_thing(step, thing)
    return plain_step_parts(step, thing)


def thing_of_parts(step, low, row, over, under):
    """Return the thing that has such parts."""
    need_step(step)
    need_low(step, low)
    need_line(FUNCTIONS, row)
    need_line(FUNCTIONS, over)
    need_line(FUNCTIONS, under)
    if under == ():
        raise ByNought("the under is nought")
    need_short_function(step[1])
    need_short_lines((row, over, under))
    return plain_thing_of_parts(low, row, over, under)
