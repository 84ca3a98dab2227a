"""Tables by number, and the first of them that stands ([21], [22])."""

from twicemany.errors import BadNumber, BadShape
from twicemany.fields import is_prime
from twicemany.forms import number_within
from twicemany.judge import stands
from twicemany.shapes import shape_fault

GREATEST_NUMBER = 1000000000
MOST_TABLES = 1000
MODULUS = 998244353


def table_at(p, n, c, number):
    """The table of c rows of n numbers that has this number."""
    if not is_prime(p) or p < 5:
        raise BadShape(0)
    if not number_within(n, 1, 8):
        raise BadShape(2)
    if not number_within(c, 0, 8):
        raise BadShape(6)
    if not number_within(number, 0, GREATEST_NUMBER):
        raise BadNumber(number)
    return table_of_number(p, n, c, number)


def table_of_number(p, n, c, number):
    """As table_at, of any number from 0 on."""
    x = (number + 1) * 104729 % MODULUS
    table = []
    for _ in range(c):
        row = []
        for _ in range(n):
            x = (3125 * x + 137) % MODULUS
            row.append(1 + x % (p - 1))
        table.append(tuple(row))
    return tuple(table)


def finder(p, n, k, e, manner, c, first, many):
    """The first of many tables whose shape stands, with its number, or None."""
    fault = shape_fault((p, 1, n, k, e, manner, ()))
    if fault is not None:
        raise BadShape(fault)
    if not number_within(c, 0, 8):
        raise BadShape(6)
    if not number_within(first, 0, GREATEST_NUMBER):
        raise BadNumber(first)
    if not number_within(many, 0, MOST_TABLES):
        raise BadNumber(many)
    for number in range(first, first + many):
        table = table_of_number(p, n, c, number)
        if stands((p, 1, n, k, e, manner, table)):
            return number, table
    return None
