"""Values, slopes and powers of lines over all fields, without any checks."""

from towerback.rawways import lines_divided, lines_times, multiple, nought_of, one_of, plus, times, trimmed_line


def line_value(field, line, number):
    """Return the value of a line at a number."""
    found = nought_of(field)
    for part in reversed(line):
        found = plus(field, times(field, found, number), part)
    return found


def line_slope(field, line):
    """Return the derivative of a line by its unknown."""
    return trimmed_line(field, [multiple(field, part, k) for k, part in enumerate(line)][1:])


def lines_power(field, line, power):
    """Return a power of a line, with an exponent from 0 on."""
    found = (one_of(field),)
    square = line
    while power:
        if power & 1:
            found = lines_times(field, found, square)
        power >>= 1
        if power:
            square = lines_times(field, square, square)
    return found


def rest_power(field, line, power, other):
    """Return the rest of a power of a line by another one, with an exponent from 0 on."""
    found = lines_divided(field, (one_of(field),), other)[1]
    square = lines_divided(field, line, other)[1]
    while power:
        if power & 1:
            found = lines_divided(field, lines_times(field, found, square), other)[1]
        power >>= 1
        if power:
            square = lines_divided(field, lines_times(field, square, square), other)[1]
    return found
