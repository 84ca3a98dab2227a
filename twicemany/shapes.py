"""Shapes: how wide and how many cells and sums are, and by which table."""

from twicemany.errors import BadShape
from twicemany.fields import is_prime
from twicemany.forms import number_within, tuple_of


def made_shape(thing):
    """Thing as a shape."""
    fault = shape_fault(thing)
    if fault is not None:
        raise BadShape(fault)
    return thing


def is_shape(thing):
    """Whether thing is a shape."""
    return shape_fault(thing) is None


def shape_fault(thing):
    """What BadShape tells of thing, or None of a shape."""
    if not tuple_of(thing, 7):
        return -1
    p, wide, n, k, e, manner, table = thing
    if not is_prime(p) or p < 5:
        return 0
    if not number_within(wide, 1, 16):
        return 1
    if not number_within(n, 1, 8):
        return 2
    if not number_within(k, 1, min(3, n)):
        return 3
    if not number_within(e, 0, 2):
        return 4
    if not number_within(manner, 0, 1) or (manner == 1 and e > 0):
        return 5
    if not table_fits(table, n, p):
        return 6
    return None


def table_fits(table, n, p):
    """Whether table is a tuple of 0 to 8 rows of n numbers below p."""
    if not isinstance(table, tuple) or len(table) > 8:
        return False
    return all([numbers_fit(row, n, p) for row in table])


def numbers_fit(thing, many, p):
    """Whether thing is a tuple of so many numbers from 0 to p - 1."""
    return tuple_of(thing, many) and all([number_within(number, 0, p - 1) for number in thing])
