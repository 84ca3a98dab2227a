"""Rows of cells, their sums, and what is left of them."""

from twicemany.errors import BadLeft, BadRow, BadShelf
from twicemany.forms import rising_below, tuple_of
from twicemany.shapes import made_shape, numbers_fit


def made_row(shape, thing):
    """Thing as a row of the shape."""
    made_shape(shape)
    fault = row_fault(shape, thing)
    if fault is not None:
        raise BadRow(fault)
    return thing


def row_fault(shape, thing):
    """What BadRow tells of thing, or None of a row."""
    if not tuple_of(thing, shape[2]):
        return -1
    for x, cell in enumerate(thing):
        if not cell_fits(shape, cell):
            return x
    return None


def cell_fits(shape, thing):
    """Whether thing is a cell of the shape."""
    return numbers_fit(thing, shape[1], shape[0])


def as_cell(shape, number):
    """The cell with this number first and zeros behind it."""
    return (number,) + (0,) * (shape[1] - 1)


def sums(shape, row):
    """The sums of a row."""
    made_row(shape, row)
    return row_sums(shape, row)


def stripe(shape, row):
    """The sums of a row, and then its cells."""
    made_row(shape, row)
    return row_sums(shape, row) + row


def row_sums(shape, row):
    """The sums of what is known to be a row."""
    return tuple([weighted(shape, weights, row) for weights in shape[6]])


def weighted(shape, weights, row):
    """The sum of a row by one row of the table."""
    p, wide = shape[0], shape[1]
    total = [0] * wide
    for weight, cell in zip(weights, row):
        total = [(so_far + weight * number) % p for so_far, number in zip(total, cell)]
    return tuple(total)


def shelves_of(shape):
    """How many shelves a shape has."""
    return len(shape[6]) + shape[2]


def made_left(shape, thing):
    """Thing as a left stripe of the shape."""
    made_shape(shape)
    fault = left_fault(shape, thing)
    if fault is not None:
        raise BadLeft(fault)
    return thing


def left_fault(shape, thing):
    """What BadLeft tells of thing, or None of a left stripe."""
    if not tuple_of(thing, shelves_of(shape)):
        return -1
    for shelf, cell in enumerate(thing):
        if cell is not None and not cell_fits(shape, cell):
            return shelf
    return None


def lost_of(left):
    """The places at which a left stripe has None."""
    return tuple([shelf for shelf, cell in enumerate(left) if cell is None])


def made_lost(shape, thing):
    """Thing as a loss: a rising tuple of shelves of what is known to be a shape."""
    if not rising_below(thing, shelves_of(shape)):
        raise BadShelf(-1)
    return thing
