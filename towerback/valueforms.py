"""Terms led to makers that have nothing to do with one another, and whether two terms are one value.

A form of a term is the term with the rational functions in its outer logarithms and exponentials in the place of
their terms. The makers told are (lines, basis, parts, rows): dicts tell, of each function in a logarithm or
exponential, its parts, or its row.
"""

from towerback.errors import InvalidMaker, NoValue, TooMany
from towerback.makerlines import lines_product, lines_sum, lines_to_power
from towerback.makers import is_exp_let, is_log_let, plain_log_parts
from towerback.rawtowers import FUNCTIONS
from towerback.rawways import constant_of, nought_of
from towerback.termled import THE_UNKNOWN, led_parts
from towerback.terms import need_term, parts_within
from towerback.wholebases import plain_basis

WIDEST_SPAN = 8
MOST_MAKERS = 6
GREATEST_OF_ROW = 24


def span_within(term):
    """Return the span of a term."""
    sort = term[0]
    if sort in ("whole", "x", "log", "exp"):
        return 1
    spans = [span_within(part) for part in parts_within(term)]
    return max(1, term[2]) * spans[0] if sort == "power" else sum(spans)


def outer_steps(term):
    """Return the list of the logarithms and exponentials of a term that stand in no other one."""
    if term[0] in ("log", "exp"):
        return [term]
    return [step for part in parts_within(term) for step in outer_steps(part)]


def need_narrow(term):
    """Raise TooMany if the span of a term, or of what is in an outer logarithm or exponential, is too wide."""
    if max([span_within(term)] + [span_within(step[1]) for step in outer_steps(term)]) > WIDEST_SPAN:
        raise TooMany(WIDEST_SPAN)


def inner_function(term):
    """Return the rational function that a term in a logarithm or exponential comes to."""
    if term[0] == "whole":
        return constant_of(FUNCTIONS, term[1], 1)
    if term[0] == "x":
        return THE_UNKNOWN
    if term[0] in ("log", "exp"):
        raise InvalidMaker("a logarithm or exponential stands in another one")
    parts = [inner_function(part) for part in parts_within(term)]
    if term[0] == "over" and parts[1] == nought_of(FUNCTIONS):
        raise NoValue("something is divided by nought")
    return led_parts((), term, (), parts)


def form_of(term):
    """Return the form of a term."""
    if term[0] in ("log", "exp"):
        function = inner_function(term[1])
        if not (is_log_let(function) if term[0] == "log" else is_exp_let(function)):
            raise InvalidMaker("a logarithm or exponential is not let")
        return term[0], function
    parts = tuple([form_of(part) for part in parts_within(term)])
    return (term[0],) + parts + term[len(parts) + 1:]


def functions_within(form, sort):
    """Return the list of the rational functions in the logarithms, or the exponentials, of a form."""
    if form[0] in ("log", "exp"):
        return [form[1]] if form[0] == sort else []
    return [function for part in parts_within(form) for function in functions_within(part, sort)]


def told_makers(forms):
    """Return (lines, basis, parts, rows) of the forms of two terms; TooMany for too many makers, too great rows."""
    parts = {}
    for function in functions_within(forms[0], "log") + functions_within(forms[1], "log"):
        if function not in parts:
            parts[function] = plain_log_parts(function)
    lines = sorted(set([line for function in sorted(parts) for line, _ in parts[function]]))
    functions = tuple(functions_within(forms[0], "exp") + functions_within(forms[1], "exp"))
    basis, rows = plain_basis(functions)
    if len(lines) + len(basis) > MOST_MAKERS:
        raise TooMany(MOST_MAKERS)
    if max([abs(number) for row in rows for number in row], default=0) > GREATEST_OF_ROW:
        raise TooMany(GREATEST_OF_ROW)
    return tuple(lines), basis, parts, {function: row for function, row in zip(functions, rows)}


def forms_and_makers(term, other):
    """Return the pair of the forms of two terms, and what told_makers tells of them; all errors of both terms."""
    need_term(term)
    need_term(other)
    need_narrow(term)
    need_narrow(other)
    forms = form_of(term), form_of(other)
    return forms, told_makers(forms)


def unit_line(told):
    """Return one, as a sum of products of the unknowns."""
    return {(0,) * (1 + len(told[0]) + len(told[1])): 1}


def leaf_line(form, told):
    """Return what a whole, x, a logarithm or an exponential comes to, a sum of products of x and of the makers."""
    lines, basis, parts, rows = told
    if form[0] == "whole":
        return {(0,) * (1 + len(lines) + len(basis)): form[1]} if form[1] else {}
    if form[0] == "x":
        return {(1,) + (0,) * (len(lines) + len(basis)): 1}
    if form[0] == "exp":
        return {(0,) * (1 + len(lines)) + rows[form[1]]: 1}
    found = {}
    for line, power in parts[form[1]]:
        at = 1 + lines.index(line)
        found[(0,) * at + (1,) + (0,) * (len(lines) + len(basis) - at)] = power
    return found


def quotient_form(form, told):
    """Return (over, under, divisors): what a form comes to, and the overs of all by which something is divided.

    NoValue if one of these is nought. The under is a product of the divisors.
    """
    sort = form[0]
    if sort in ("whole", "x", "log", "exp"):
        return leaf_line(form, told), unit_line(told), []
    over, under, divisors = quotient_form(form[1], told)
    if sort == "negative":
        return lines_sum({}, over, -1), under, divisors
    if sort == "power":
        unit = unit_line(told)
        return lines_to_power(over, form[2], unit), lines_to_power(under, form[2], unit), divisors
    above, below, others = quotient_form(form[2], told)
    divisors = divisors + others
    if sort == "times":
        return lines_product(over, above), lines_product(under, below), divisors
    if sort == "over":
        if not above:
            raise NoValue("something is divided by nought")
        return lines_product(over, below), lines_product(under, above), divisors + [above]
    over = lines_sum(lines_product(over, below), lines_product(above, under), 1 if sort == "plus" else -1)
    return over, lines_product(under, below), divisors


def compared(term, other):
    """Return (told, difference, divisors) of two terms: the difference is nought only if they are one value."""
    forms, told = forms_and_makers(term, other)
    over, under, divisors = quotient_form(forms[0], told)
    above, below, others = quotient_form(forms[1], told)
    difference = lines_sum(lines_product(over, below), lines_product(above, under), -1)
    return told, difference, divisors + others


def makers_of(term, other):
    """Return the pair (lines, basis) of two terms."""
    return forms_and_makers(term, other)[1][:2]


def are_one(term, other):
    """Tell whether two terms are one value."""
    return compared(term, other)[1] == {}
