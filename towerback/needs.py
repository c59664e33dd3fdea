"""Checks of arguments: each function here raises an error, or does nothing."""

from towerback.errors import EmptyLine, InvalidField, InvalidLine, InvalidMonic, InvalidNumber, InvalidRow, InvalidTable
from towerback.forms import DEEPEST, has_field_form, is_given_line, is_given_number, is_monic, is_prime_field
from towerback.integers import is_integer_in
from towerback.rawtables import is_given_row, is_given_table

LARGEST_SQUARE = 12
HIGHEST_DEGREE = 16


def need_field(field):
    """Raise InvalidField for what is no field."""
    if not has_field_form(field, DEEPEST):
        raise InvalidField("this is no field")


def need_number(field, number):
    """Raise InvalidNumber for what is no number of a field."""
    if not is_given_number(field, number):
        raise InvalidNumber("this is no number of the field")


def need_line(field, line):
    """Raise InvalidLine for what is no line over a field."""
    if not is_given_line(field, line):
        raise InvalidLine("this is no line over the field")


def need_integer(value, low, high):
    """Raise InvalidNumber for what is no integer from low to high."""
    if not is_integer_in(value, low, high):
        raise InvalidNumber("this is no integer that fits")


def need_two_numbers(field, one, other):
    """Raise the errors of a field and of two numbers of it."""
    need_field(field)
    need_number(field, one)
    need_number(field, other)


def need_two_lines(field, one, other):
    """Raise the errors of a field and of two lines over it."""
    need_field(field)
    need_line(field, one)
    need_line(field, other)


def need_filled_line(field, line):
    """Raise InvalidLine for what is no line over a field, EmptyLine for the line nought."""
    need_line(field, line)
    if line == ():
        raise EmptyLine("the line is nought")


def need_two_filled(field, one, other):
    """Raise the errors of a field and of two lines over it that must not be nought."""
    need_field(field)
    need_filled_line(field, one)
    need_filled_line(field, other)


def need_prime(prime):
    """Raise InvalidField for what is no prime that is a field."""
    if not is_prime_field(prime):
        raise InvalidField("this is no prime that fits")


def need_short_line(prime, line):
    """Raise InvalidLine for what is no line over a prime field, of degree 16 at most."""
    need_line(prime, line)
    if len(line) > HIGHEST_DEGREE + 1:
        raise InvalidLine("the degree of the line is too high")


def need_monic(prime, line):
    """Raise the errors of a prime and of a monic line over its field."""
    need_prime(prime)
    need_short_line(prime, line)
    if not is_monic(prime, line):
        raise InvalidMonic("the line is not monic, or has no degree from 1 on")


def need_table(field, table):
    """Raise InvalidTable for what is no table over a field."""
    if not is_given_table(field, table):
        raise InvalidTable("this is no table over the field")


def need_square(field, table):
    """Raise InvalidTable for what is no square table over a field."""
    need_table(field, table)
    if len(table) != len(table[0]) or len(table) > LARGEST_SQUARE:
        raise InvalidTable("this is no square table over the field")


def need_row(field, row, many):
    """Raise InvalidRow for what is no row of so many numbers of a field."""
    if not is_given_row(field, row, many):
        raise InvalidRow("this is no row that fits")
