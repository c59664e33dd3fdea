"""Lots of the lifted parts of a whole line, and the lines that they may be."""

from towerback.divisorbounds import bound_of
from towerback.errors import InvalidLot
from towerback.integers import integer_power, is_integer_in
from towerback.lifts import need_good, need_lift
from towerback.modlines import mod_times
from towerback.nested import nested_digit
from towerback.wholeways import WHOLE, divides_whole, half_degree, whole_primitive


def power_above(line, prime):
    """Return the least power such that a prime to it is greater than twice the bound times the last number."""
    limit = 2 * bound_of(line) * line[-1]
    power, product = 1, prime
    while product <= limit:
        power += 1
        product *= prime
    return power


def longer_lots(rows, degrees, most):
    """Return the lots, in order, with one more index, behind the others, of pairs (lot, degree) up to a degree."""
    found = []
    for lot, degree in rows:
        first = lot[-1] + 1 if lot else 0
        for at in range(first, len(degrees)):
            if degree + degrees[at] <= most:
                found.append((lot + (at,), degree + degrees[at]))
    return found


def tried_lots(line, lift):
    """Return the list of the lots of a lift that are tried, in order."""
    degrees = [len(part) - 1 for part in lift]
    rows = longer_lots([((), 0)], degrees, half_degree(line))
    found = []
    while rows:
        found.extend([lot for lot, _ in rows])
        rows = longer_lots(rows, degrees, half_degree(line))
    return found


def line_of_lot(line, modulus, lift, lot):
    """Return the line of a lot of a lift mod a modulus."""
    product = (line[-1] % modulus,)
    for at in lot:
        product = mod_times(modulus, product, lift[at])
    return whole_primitive(nested_digit(WHOLE, product, modulus))


def may_divide(line, modulus, lift, lot):
    """Tell whether the first number leaves it open that the line of a lot divides a line."""
    if line[0] == 0:
        return True
    number = line[-1] % modulus
    # What is taken out of the line of a lot divides its last number, whatever the modulus is.
    limit = nested_digit(0, number, modulus) * line[0]
    for at in lot:
        number = number * lift[at][0] % modulus
    number = nested_digit(0, number, modulus)
    return number != 0 and limit % number == 0


def dividing_lot(line, modulus, lift):
    """Return the pair of the first lot that is tried whose line divides a line, and of this line, or None."""
    for lot in tried_lots(line, lift):
        if may_divide(line, modulus, lift, lot):
            found = line_of_lot(line, modulus, lift, lot)
            if divides_whole(found, line):
                return lot, found
    return None


def is_lot(lift, value):
    """Tell whether any value is a lot of a lift."""
    if not isinstance(value, tuple):
        return False
    first = 0
    for at in value:
        if not is_integer_in(at, first, len(lift) - 1):
            return False
        first = at + 1
    return True


def least_power(line, prime):
    """Return the least power such that a prime to it is greater than twice the bound times the last number."""
    need_good(line, prime)
    return power_above(line, prime)


def lots_of(line, prime, power, lift):
    """Return the list of the lots of a lift that are tried, in order."""
    need_lift(line, prime, power, lift)
    return tried_lots(line, lift)


def lot_line(line, prime, power, lift, lot):
    """Return the line of a lot of a lift."""
    need_lift(line, prime, power, lift)
    if not is_lot(lift, lot):
        raise InvalidLot("this is no lot of the lift")
    return line_of_lot(line, integer_power(prime, power), lift, lot)


def first_lot(line, prime, power, lift):
    """Return the pair of the first lot that is tried whose line divides the line, and of this line, or None."""
    need_lift(line, prime, power, lift)
    return dividing_lot(line, integer_power(prime, power), lift)
