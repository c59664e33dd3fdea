"""Parts of whole lines mod a prime, lifted to a power of it."""

from towerback.errors import InvalidLift
from towerback.forms import is_prime_field
from towerback.integers import integer_power, inverse_rest
from towerback.lineroots import mod_of_whole, slope_of_whole
from towerback.modfactors import is_unsplit_line, parts_of_square_free
from towerback.modlines import mod_common, mod_divided, mod_inverse, mod_monic, mod_plus, mod_scaled, mod_times, trimmed
from towerback.needs import need_integer
from towerback.wholeways import is_whole, need_primitive

MOST_POWER = 2000


def is_good(line, prime):
    """Tell whether a prime is good for a primitive line with the unknown."""
    if line[-1] % prime == 0:
        return False
    return len(mod_common(prime, mod_of_whole(prime, line), mod_of_whole(prime, slope_of_whole(line)))) == 1


def need_good(line, prime):
    """Raise InvalidWhole for what is no primitive line with the unknown, InvalidLift for what is no good prime."""
    need_primitive(line)
    if not is_prime_field(prime) or not is_good(line, prime):
        raise InvalidLift("this is no prime that is good for the line")


def need_lift(line, prime, power, lift):
    """Raise the errors of a line, a prime, a power and a lift."""
    need_good(line, prime)
    need_integer(power, 1, MOST_POWER)
    if not is_lift_of(line, prime, power, lift):
        raise InvalidLift("this is not the lift")


def parts_mod(line, prime):
    """Return the tuple of the parts of a line mod a prime that is good for it."""
    return tuple(parts_of_square_free(prime, mod_monic(prime, mod_of_whole(prime, line))))


def other_products(modulus, parts):
    """Return the list of the products, mod a number, of all parts but the one with each index."""
    ahead = [(1,)]
    for part in parts[:-1]:
        ahead.append(mod_times(modulus, ahead[-1], part))
    found = []
    behind = (1,)
    for at in reversed(range(len(parts))):
        found.append(mod_times(modulus, ahead[at], behind))
        behind = mod_times(modulus, behind, parts[at])
    return list(reversed(found))


def cofactors_of(prime, parts):
    """Return the tuple of the cofactors of parts mod a prime."""
    found = []
    for part, others in zip(parts, other_products(prime, parts)):
        found.append(mod_inverse(prime, mod_divided(prime, others, part)[1], part))
    return tuple(found)


def rest_by_monic(modulus, line, other):
    """Return the rest of a line by a monic one, mod a number, the products being reduced only when they are used."""
    rest = list(line)
    while len(rest) >= len(other):
        many = rest.pop() % modulus
        first = len(rest) - len(other) + 1
        if many:
            for at, number in enumerate(other[:-1]):
                rest[first + at] -= many * number
    return trimmed([number % modulus for number in rest])


def moved_lines(modulus, lines, parts, cofactors, missing):
    """Return the list of lines, each plus the rest, by a part, of what is missing times a cofactor."""
    found = []
    for line, part, cofactor in zip(lines, parts, cofactors):
        step = rest_by_monic(modulus, mod_times(modulus, cofactor, missing), part)
        found.append(mod_plus(modulus, line, step))
    return found


def exponents_to(power):
    """Return the list of exponents, each at most twice the one ahead, from above 1 up to a power."""
    found = []
    while power > 1:
        found.append(power)
        power = (power + 1) // 2
    return list(reversed(found))


def moved_cofactors(modulus, parts, cofactors):
    """Return the cofactors of parts mod a number from those mod a number whose square it divides."""
    missing = (1,)
    for others, cofactor in zip(other_products(modulus, parts), cofactors):
        missing = mod_plus(modulus, missing, mod_scaled(modulus, mod_times(modulus, others, cofactor), -1))
    return moved_lines(modulus, cofactors, parts, cofactors, missing)


def lift_of(line, prime, parts, power):
    """Return the lift to a power of the parts of a line mod a prime that is good for it."""
    cofactors = cofactors_of(prime, parts)
    inverse = inverse_rest(line[-1], prime)
    for exponent in exponents_to(power):
        modulus = integer_power(prime, exponent)
        inverse = inverse * (2 - line[-1] * inverse) % modulus
        others = other_products(modulus, parts)
        product = mod_times(modulus, others[0], parts[0])
        missing = mod_plus(modulus, mod_scaled(modulus, line, inverse), mod_scaled(modulus, product, -1))
        parts = moved_lines(modulus, parts, parts, cofactors, missing)
        if exponent < power:
            cofactors = moved_cofactors(modulus, parts, cofactors)
    return tuple(parts)


def are_lifted(prime, modulus, value, degree):
    """Tell whether any value are monic lines, of a degree in all, with numbers from 0 on below a modulus.

    Mod a prime they must ascend, and none of them can be split.
    """
    if not isinstance(value, tuple):
        return False
    last = ()
    for line in value:
        if not is_whole(line) or len(line) < 2 or line[-1] != 1 or not all(0 <= number < modulus for number in line):
            return False
        part = mod_of_whole(prime, line)
        degree -= len(part) - 1
        if part <= last or degree < 0 or not is_unsplit_line(prime, part):
            return False
        last = part
    return degree == 0


def is_lift_of(line, prime, power, value):
    """Tell whether any value is the lift of a line to a power of a prime that is good for it."""
    modulus = integer_power(prime, power)
    if not are_lifted(prime, modulus, value, len(line) - 1):
        return False
    product = (line[-1],)
    for part in value:
        product = mod_times(modulus, product, part)
    return product == mod_of_whole(modulus, line)


def is_good_prime(line, value):
    """Tell whether any value is a prime that is good for a line."""
    need_primitive(line)
    return is_prime_field(value) and is_good(line, value)


def mod_parts(line, prime):
    """Return the parts of a line mod a prime that is good for it."""
    need_good(line, prime)
    return parts_mod(line, prime)


def lift_cofactors(line, prime):
    """Return the cofactors of a line for a prime that is good for it."""
    need_good(line, prime)
    return cofactors_of(prime, parts_mod(line, prime))


def lifted_parts(line, prime, power):
    """Return the lift of a line to a power of a prime that is good for it."""
    need_good(line, prime)
    need_integer(power, 1, MOST_POWER)
    return lift_of(line, prime, parts_mod(line, prime), power)


def is_lift(line, prime, power, value):
    """Tell whether any value is the lift of a line to a power of a prime that is good for it."""
    need_good(line, prime)
    need_integer(power, 1, MOST_POWER)
    return is_lift_of(line, prime, power, value)
