"""Mends: the writes that make rows whole ([31], [32])."""

from twicemany.codes import code_of
from twicemany.errors import Spoilt
from twicemany.readings import told
from twicemany.rows import row_sums


def whole_row(rack, row):
    """The row that is told of what is left of a row of the rack."""
    full = told(rack.shape, rack.left(row))
    if full is None:
        raise Spoilt(row)
    return full


def mend(rack, row):
    """The code that makes a row whole."""
    full = whole_row(rack, row)
    stripe = row_sums(rack.shape, full) + full
    return code_of([[(row, shelf, cell) for shelf, cell in enumerate(stripe) if lies_else(rack, row, shelf, cell)]])


def lies_else(rack, row, shelf, cell):
    """Whether a shelf is there and has another cell than this one."""
    there = rack.cell(row, shelf)
    return there is not None and there != cell


def mend_all(rack):
    """The code that makes all rows whole, in order."""
    code = ()
    for row in range(rack.rows):
        code = code + mend(rack, row)
    return code
