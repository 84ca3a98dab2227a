"""Banks: transactions on the rows of a rack ([34], [35])."""

from twicemany.codes import code_of, do, stop
from twicemany.errors import BadChange, TooWide, Unwhole
from twicemany.forms import number_within, tuple_of
from twicemany.mends import mend_all
from twicemany.readings import is_whole, told
from twicemany.rows import cell_fits, row_sums


def change(rack, row, changes):
    """The code of one transaction that gives cells of a whole row other worths."""
    left = rack.left(row)
    fault = changes_fault(rack.shape, changes)
    if fault is not None:
        raise BadChange(fault)
    ahead = row_told(rack, row, left)
    behind = list(ahead)
    for x, cell in changes:
        behind[x] = cell
    many = len([x for x, cell in enumerate(behind) if cell != ahead[x]])
    if many > rack.shape[3]:
        raise TooWide(many)
    return code_between(rack, row, ahead, tuple(behind))


def changes_fault(shape, changes):
    """What BadChange tells of changes, or None if they are right."""
    if not isinstance(changes, tuple):
        return -1
    low = 0
    for index, pair in enumerate(changes):
        if not tuple_of(pair, 2):
            return index
        x, cell = pair
        if not number_within(x, low, shape[2] - 1) or not cell_fits(shape, cell):
            return index
        low = x + 1
    return None


def row_told(rack, row, left):
    """The row of which this is left; it is refused unless it is whole."""
    if not is_whole(rack.shape, left):
        raise Unwhole(row)
    return told(rack.shape, left)


def code_between(rack, row, ahead, behind):
    """The code of the writes to all shelves that are not lost, on which two rows differ."""
    shape = rack.shape
    many = len(shape[6])
    before = row_sums(shape, ahead) + ahead
    after = row_sums(shape, behind) + behind
    writes = [(row, shelf, cell) for shelf, cell in enumerate(after)
              if cell != before[shelf] and rack.cell(row, shelf) is not None]
    if shape[5] == 0:
        return code_of([writes])
    of_sums = [write for write in writes if write[1] < many]
    return code_of([of_sums, writes[len(of_sums):]])


class Bank:
    """What a rack can tell and do, as it is at each call."""

    def __init__(self, rack):
        self.rack = rack
        self.rows = rack.rows
        self.cells = rack.shape[2]
        self.wide = rack.shape[1]
        self.most = rack.shape[3]
        self.top = rack.shape[0] - 1

    def row(self, r):
        """A whole row."""
        return row_told(self.rack, r, self.rack.left(r))

    def changed(self, r, changes):
        """The code of a change of a row."""
        return change(self.rack, r, changes)

    def mended(self):
        """The code that makes all rows whole."""
        return mend_all(self.rack)

    def do(self, code):
        """Do all of a code."""
        do(self.rack, code)

    def stop(self, code, many, came):
        """Do a part of a code, as a stop would leave it."""
        stop(self.rack, code, many, came)
