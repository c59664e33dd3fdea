"""Terms: wholes, x, sums, products, quotients, powers, logarithms and exponentials, as tuples."""

from towerback.integers import is_integer_in
from towerback.termerrors import InvalidPath, InvalidTerm

GREATEST_WHOLE = 1000000
GREATEST_EXPONENT = 12
GREATEST_HEIGHT = 60
MOST_TERMS = 20000
# How many parts each sort of term has.
MANY_PARTS = {
    "whole": 0, "x": 0, "negative": 1, "power": 1, "log": 1, "exp": 1, "plus": 2, "minus": 2, "times": 2, "over": 2,
}


def has_sort(value):
    """Tell whether any value is a tuple as a term is, whatever its parts are."""
    if not isinstance(value, tuple) or not value or not isinstance(value[0], str) or value[0] not in MANY_PARTS:
        return False
    many = MANY_PARTS[value[0]] + 1
    if value[0] == "whole":
        return len(value) == 2 and is_integer_in(value[1], 0, GREATEST_WHOLE)
    if value[0] == "power":
        return len(value) == 3 and is_integer_in(value[2], 0, GREATEST_EXPONENT)
    return len(value) == many


def parts_within(term):
    """Return the tuple of the parts of a term."""
    return term[1:MANY_PARTS[term[0]] + 1]


def is_built_within(value, height, many):
    """Tell whether any value is built as a term is, no higher than told, and of no more terms."""
    waiting = [(value, height)]
    while waiting:
        part, left = waiting.pop()
        many -= 1
        if many < 0 or left == 0 or not has_sort(part):
            return False
        waiting.extend([(inner, left - 1) for inner in parts_within(part)])
    return True


def is_plain_term(value):
    """Tell whether any value is a term."""
    return is_built_within(value, GREATEST_HEIGHT, MOST_TERMS)


def need_term(term):
    """Raise InvalidTerm for what is no term."""
    if not is_plain_term(term):
        raise InvalidTerm("this is no term")


def height_within(term):
    """Return the height of a term."""
    return 1 + max([height_within(part) for part in parts_within(term)], default=0)


def size_from_parts(term, sizes):
    """Return the size of a term from the list of those of its parts."""
    sort = term[0]
    if sort == "whole":
        return 0, 0
    if sort in ("x", "log", "exp"):
        return 1, 0
    above, below = sizes[0]
    if sort == "power":
        return term[2] * above, term[2] * below
    if sort == "negative":
        return sizes[0]
    over, under = sizes[1]
    if sort == "times":
        return above + over, below + under
    if sort == "over":
        return above + under, below + over
    return max(above + under, over + below), below + under


def size_within(term):
    """Return the size of a term."""
    return size_from_parts(term, [size_within(part) for part in parts_within(term)])


def is_term(value):
    """Tell whether any value is a term."""
    return is_plain_term(value)


def parts_of(term):
    """Return the tuple of the parts of a term."""
    need_term(term)
    return parts_within(term)


def height_of(term):
    """Return the height of a term."""
    need_term(term)
    return height_within(term)


def size_of(term):
    """Return the size of a term."""
    need_term(term)
    return size_within(term)


def part_at(term, path):
    """Return the part of a term to which a path leads."""
    need_term(term)
    if not isinstance(path, tuple):
        raise InvalidPath("this is no path")
    for index in path:
        parts = parts_within(term)
        if not is_integer_in(index, 0, len(parts) - 1):
            raise InvalidPath("the path leads to no part")
        term = parts[index]
    return term
