"""Lines over a prime field: tuples of integers from 0 to the prime less 1, the last one not 0."""

from towerback.integers import inverse_rest


def trimmed(parts):
    """Return what is in a list, without the noughts (0 or ()) at its end, as a tuple."""
    many = len(parts)
    while many and not parts[many - 1]:
        many -= 1
    return tuple(parts[:many])


def mod_plus(prime, one, other):
    """Return the sum of two lines."""
    if len(one) < len(other):
        one, other = other, one
    sums = [(a + b) % prime for a, b in zip(one, other)]
    return trimmed(sums + list(one[len(other):]))


def mod_scaled(prime, line, number):
    """Return a line times a number."""
    return trimmed([part * number % prime for part in line])


def mod_times(prime, one, other):
    """Return the product of two lines."""
    if not one or not other:
        return ()
    sums = [0] * (len(one) + len(other) - 1)
    for i, a in enumerate(one):
        if a:
            for j, b in enumerate(other):
                sums[i + j] += a * b
    return trimmed([part % prime for part in sums])


def mod_divided(prime, line, other):
    """Return the quotient and the rest of a line by another one that is not nought."""
    rest = list(line)
    many = len(line) - len(other) + 1
    if many <= 0:
        return (), line
    inverse = inverse_rest(other[-1], prime)
    quotient = [0] * many
    for k in reversed(range(many)):
        times = rest[k + len(other) - 1] * inverse % prime
        quotient[k] = times
        if times:
            for i, b in enumerate(other):
                rest[k + i] = (rest[k + i] - times * b) % prime
    return tuple(quotient), trimmed(rest)


def mod_monic(prime, line):
    """Return a line by its last number; nought stays nought."""
    if not line or line[-1] == 1:
        return line
    return mod_scaled(prime, line, inverse_rest(line[-1], prime))


def mod_common(prime, one, other):
    """Return the monic greatest common divisor of two lines."""
    while other:
        one, other = other, mod_divided(prime, one, other)[1]
    return mod_monic(prime, one)


def mod_inverse(prime, line, modulus):
    """Return the line whose product with a line leaves the rest one by the modulus, or None."""
    row, behind = (modulus, ()), (line, (1,))
    while len(behind[0]) > 1:
        quotient, rest = mod_divided(prime, row[0], behind[0])
        step = mod_times(prime, quotient, behind[1])
        row, behind = behind, (rest, mod_plus(prime, row[1], mod_scaled(prime, step, prime - 1)))
    if not behind[0]:
        return None
    scaled = mod_scaled(prime, behind[1], inverse_rest(behind[0][0], prime))
    return mod_divided(prime, scaled, modulus)[1]
