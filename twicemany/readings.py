"""What is told of a left stripe ([23] to [25])."""

from twicemany.errors import Blind
from twicemany.fields import kernel, solved
from twicemany.kinds import kept_sums, lost_cells
from twicemany.leavings import common_rows
from twicemany.rows import left_fault, lost_of, made_left, row_sums
from twicemany.shapes import is_shape


def is_whole(shape, left):
    """Whether some row has in its stripe what all kept shelves have."""
    return is_shape(shape) and left_fault(shape, left) is None and row_that_fits(shape, left) is not None


def row_that_fits(shape, left):
    """A row of whose stripe all kept shelves have what they have, or None."""
    many = len(shape[6])
    gone = lost_cells(shape, lost_of(left))
    matrix = unseen_columns(shape, left)
    found = []
    for place in range(shape[1]):
        numbers = solved(matrix, len(gone), missing_numbers(shape, left, place), shape[0])
        if numbers is None:
            return None
        found.append(numbers[0])
    row = list(left[many:])
    for at, x in enumerate(gone):
        row[x] = tuple([numbers[at] for numbers in found])
    return tuple(row)


def unseen_columns(shape, left):
    """The columns of the lost cells, on the kept sums."""
    lost = lost_of(left)
    gone = lost_cells(shape, lost)
    return [[shape[6][shelf][x] for x in gone] for shelf in kept_sums(shape, lost)]


def missing_numbers(shape, left, place):
    """What the lost cells have to bring to each kept sum, at one place."""
    many = len(shape[6])
    there = [(x, cell[place]) for x, cell in enumerate(left[many:]) if cell is not None]
    found = []
    for shelf in kept_sums(shape, lost_of(left)):
        brought = sum([shape[6][shelf][x] * number for x, number in there])
        found.append((left[shelf][place] - brought) % shape[0])
    return found


def told(shape, left):
    """The row that is told of a left stripe, or None if no story leaves it."""
    rows = spread(shape, left)
    if rows == ():
        return None
    return likelier(shape, left, rows)


def spread(shape, left):
    """The rows that are ends of all stories that leave a left stripe; of a whole one its row alone."""
    made_left(shape, left)
    gone = lost_cells(shape, lost_of(left))
    if kernel(unseen_columns(shape, left), len(gone), shape[0]) != ():
        raise Blind(lost_of(left))
    row = row_that_fits(shape, left)
    if row is not None:
        return (row,)
    return common_rows(shape, left)


def likelier(shape, left, rows):
    """The one of rising rows with which the kept shelves agree best."""
    full = [row_sums(shape, row) + row for row in rows]
    if shape[5] == 1:
        many = len(shape[6])
        for first, last in ((many, many + shape[2]), (0, many)):
            whole = [row for row, stripe in zip(rows, full) if unlike_shelves(left, stripe, first, last) == 0]
            if whole != []:
                return whole[0]
    unlike = [unlike_shelves(left, stripe, 0, len(left)) for stripe in full]
    return rows[unlike.index(min(unlike))]


def unlike_shelves(left, stripe, first, last):
    """How many of these shelves are kept and have another cell than the stripe."""
    kept = [shelf for shelf in range(first, last) if left[shelf] is not None]
    return sum([1 for shelf in kept if left[shelf] != stripe[shelf]])
