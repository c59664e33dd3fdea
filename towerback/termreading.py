"""Texts of terms, read.

Each function here that reads something takes the place where this begins, and returns the place behind it, too.
Each character is taken as soon as a text of a term can go on with it: so the first one that is not is where
the text is refused.
"""

from towerback.errors import TooMany
from towerback.termerrors import BadText, InvalidText
from towerback.terms import GREATEST_EXPONENT, GREATEST_WHOLE, MOST_TERMS, is_built_within

LONGEST_TEXT = 400
DEEPEST_BRACKET = 8
HIGHEST_READ = 16
DIGITS = "0123456789"
SIGNS = {"+": "plus", "-": "minus", "*": "times", "/": "over"}


def need_text(text):
    """Raise InvalidText for what is no string, or a too long one."""
    if not isinstance(text, str) or len(text) > LONGEST_TEXT:
        raise InvalidText("this is no text, or a too long one")


def char_at(text, place):
    """Return the character at a place, "" at the end."""
    return text[place:place + 1]


def behind_blanks(text, place):
    """Return the first place, from one on, without a blank."""
    while char_at(text, place) == " ":
        place += 1
    return place


def behind_word(text, place, word):
    """Return the place behind a word that must stand at a place."""
    for char in word:
        if char_at(text, place) != char:
            raise BadText(place)
        place += 1
    return place


def read_integer(text, place, greatest):
    """Return an integer from 0 to the greatest one, and the place behind it."""
    char = char_at(text, place)
    if char == "" or char not in DIGITS:
        raise BadText(place)
    number = DIGITS.index(char)
    first = place
    place += 1
    while char_at(text, place) != "" and char_at(text, place) in DIGITS:
        number = 10 * number + DIGITS.index(char_at(text, place))
        if text[first] == "0" or number > greatest:
            raise BadText(place)
        place += 1
    return number, place


def read_bracket(text, place, depth):
    """Return the term of a bracket within so many others, and the place behind it."""
    place = behind_word(text, place, "(")
    term, place = read_sum(text, place, depth + 1)
    return term, behind_word(text, place, ")")


def read_atom(text, place, depth):
    """Return the term of an atom within so many brackets, and the place behind it."""
    char = char_at(text, place)
    if char == "x":
        return ("x",), place + 1
    if char != "" and char in DIGITS:
        number, place = read_integer(text, place, GREATEST_WHOLE)
        return ("whole", number), place
    if depth == DEEPEST_BRACKET:
        # A name, too, could only go on with a bracket.
        raise BadText(place)
    if char == "l" or char == "e":
        word = "log" if char == "l" else "exp"
        place = behind_blanks(text, behind_word(text, place, word))
        term, place = read_bracket(text, place, depth)
        return (word, term), place
    return read_bracket(text, place, depth)


def read_power(text, place, depth):
    """Return the term of a power within so many brackets, and the first place behind it without a blank."""
    term, place = read_atom(text, behind_blanks(text, place), depth)
    place = behind_blanks(text, place)
    if char_at(text, place) != "^":
        return term, place
    exponent, place = read_integer(text, behind_blanks(text, place + 1), GREATEST_EXPONENT)
    return ("power", term, exponent), behind_blanks(text, place)


def read_product(text, place, depth):
    """Return the term of a product within so many brackets, and the first place behind it without a blank."""
    term, place = read_power(text, place, depth)
    while char_at(text, place) in ("*", "/"):
        sort = SIGNS[text[place]]
        other, place = read_power(text, place + 1, depth)
        term = (sort, term, other)
    return term, place


def read_sum(text, place, depth):
    """Return the term of a sum within so many brackets, and the first place behind it without a blank."""
    place = behind_blanks(text, place)
    if char_at(text, place) == "-":
        term, place = read_product(text, place + 1, depth)
        term = ("negative", term)
    else:
        term, place = read_product(text, place, depth)
    while char_at(text, place) in ("+", "-"):
        sort = SIGNS[text[place]]
        other, place = read_product(text, place + 1, depth)
        term = (sort, term, other)
    return term, place


def read_whole_text(text):
    """Return the term of a text, of any height; BadText if it has none."""
    term, place = read_sum(text, 0, 0)
    if place < len(text):
        raise BadText(place)
    return term


def plain_read(text):
    """Return the term of a text; BadText if it has none, TooMany if it is too high."""
    term = read_whole_text(text)
    if not is_built_within(term, HIGHEST_READ, MOST_TERMS):
        raise TooMany(HIGHEST_READ)
    return term


def read_term(text):
    """Return the term of a text."""
    need_text(text)
    return plain_read(text)


def first_refused(text):
    """Return the index at which a text is refused, or None for a text of a term."""
    need_text(text)
    try:
        read_whole_text(text)
    except BadText as refusal:
        return refusal.place
    return None
