"""Terms by chance, and texts of terms read by patterns, against which the package is held."""

import re
from fractions import Fraction

from tests.support import any_values

X1 = ("x",)
W1, W2, W0 = ("whole", 1), ("whole", 2), ("whole", 0)
NEAR_TERMS = [
    (), ("x", ()), ("X",), ["x"], ("whole",), ("whole", -1), ("whole", 10 ** 6 + 1), ("whole", True), ("whole", "1"), ("whole", 1, 2), ("negative",),
    ("negative", X1, X1), ("negative", 3), ("plus", X1), ("plus", X1, X1, X1), ("plus", X1, None), ("minus", X1), ("times", X1), ("over", X1),
    ("power", X1), ("power", X1, 13), ("power", X1, -1), ("power", X1, True), ("power", X1, X1), ("power", 2, 3), ("log",), ("log", X1, X1),
    ("exp", 1), ("sin", X1), (X1,), ("plus", X1, ["x"]), ("times", ("x", 1), X1), (1, X1), (None, X1), ("name", "x"), ("log", ("log",)),
]
NOT_TERMS = any_values() + NEAR_TERMS


def chain(many, term=X1):
    """Return a term with so many negatives around it."""
    for _ in range(many):
        term = ("negative", term)
    return term


def of_many(many):
    """Return a low term that is built of so many terms."""
    if many < 3:
        return chain(many - 1)
    less = (many - 1) // 2
    return "plus", of_many(less), of_many(many - 1 - less)


def random_term(chance, height, logs=True):
    """Return some term of a height at most."""
    if height == 1 or chance.randrange(6) == 0:
        return chance.choice((X1, X1, ("whole", chance.choice((0, 1, 2, 7, 10 ** 6)))))
    sort = chance.choice(["negative", "plus", "minus", "times", "over", "power"] + (["log", "exp"] if logs else []))
    first = random_term(chance, height - 1, logs)
    if sort in ("negative", "log", "exp"):
        return sort, first
    if sort == "power":
        return sort, first, chance.choice((0, 1, 2, 3, 12))
    return sort, first, random_term(chance, height - 1, logs)


def parts(term):
    """Return the parts of a term."""
    return tuple(part for part in term[1:] if isinstance(part, tuple))


def all_parts(term, path=()):
    """Return the pairs (path, part) of all parts of a term, the term itself too."""
    found = [(path, term)]
    for at, part in enumerate(parts(term)):
        found.extend(all_parts(part, path + (at,)))
    return found


def is_text(text, deepest=8):
    """Tell by patterns whether a text is one of a term."""
    tokens = re.findall(r"log|exp|x|[0-9]+|[-+*/^()]| +|.|\n", text)
    if "".join(tokens) != text:
        return False
    plain = ""
    for token in tokens:
        if token.isdigit():
            if token != str(int(token)):
                return False
            plain += "N" if int(token) > 12 else "n"
            if int(token) > 10 ** 6:
                return False
        elif token in ("log", "exp"):
            plain += "f"
        elif token in "+-*/^()x":
            plain += token
        elif token.strip(" "):
            return False
    if depth_of(plain) > deepest:
        return False
    # Brackets are taken for atoms, the inner ones ahead.
    power = r"(?:x|n|N|a)(?:\^n)?"
    product = power + r"(?:[*/]" + power + ")*"
    total = "-?" + product + "(?:[-+]" + product + ")*"
    while True:
        more = re.sub(r"f?\(" + total + r"\)", "a", plain)
        if more == plain:
            return re.fullmatch(total, plain) is not None
        plain = more


def depth_of(plain):
    """Return how deep brackets stand in one another."""
    depth = deepest = 0
    for char in plain:
        depth += (char == "(") - (char == ")")
        deepest = max(deepest, depth)
    return deepest


def value_of(term, number):
    """Return the value of a term without logarithms and exponentials at a number, None if something is divided by 0."""
    sort = term[0]
    if sort == "whole":
        return Fraction(term[1])
    if sort == "x":
        return Fraction(number)
    values = [value_of(part, number) for part in parts(term)]
    if None in values:
        return None
    if sort == "negative":
        return -values[0]
    if sort == "power":
        return values[0] ** term[2]
    if sort == "plus":
        return values[0] + values[1]
    if sort == "minus":
        return values[0] - values[1]
    if sort == "times":
        return values[0] * values[1]
    return values[0] / values[1] if values[1] else None


def line_value(line, number):
    """Return the value of a line over the fractions at a number."""
    total = Fraction(0)
    for over, under in reversed(line):
        total = total * number + Fraction(over, under)
    return total
