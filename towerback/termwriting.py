"""Texts written of terms, with the fewest brackets.

A name, ("name", text), may stand for an unknown within what is written here: it is bound as tightly as x.
"""

from towerback.terms import need_term

SIGNS = {"plus": "+", "minus": "-", "times": "*", "over": "/"}
# How tightly each sort of term is bound; those that are not told here are bound most tightly.
BINDINGS = {"plus": 0, "minus": 0, "negative": 0, "times": 1, "over": 1, "power": 2}
TIGHTEST = 3


def bracketed(term, least):
    """Return the text of a term, with a bracket around it if it is bound less tightly than told."""
    text = text_of(term)
    return text if BINDINGS.get(term[0], TIGHTEST) >= least else "(" + text + ")"


def text_of(term):
    """Return the text written of a term, in which names may stand."""
    sort = term[0]
    if sort == "x":
        return "x"
    if sort == "name":
        return term[1]
    if sort == "whole":
        return str(term[1])
    if sort in ("log", "exp"):
        return sort + "(" + text_of(term[1]) + ")"
    if sort == "power":
        return bracketed(term[1], TIGHTEST) + "^" + str(term[2])
    if sort == "negative":
        return "-" + bracketed(term[1], BINDINGS[sort] + 1)
    return bracketed(term[1], BINDINGS[sort]) + SIGNS[sort] + bracketed(term[2], BINDINGS[sort] + 1)


def write_term(term):
    """Return the text written of a term."""
    need_term(term)
    return text_of(term)
