"""Racks: rows of cells and sums on shelves that may be lost ([27], [28])."""

from twicemany.errors import BadCell, BadNumber, BadShelf, NotLost, TooMany, Unlike, Unwhole
from twicemany.forms import number_within
from twicemany.readings import is_whole, told
from twicemany.rows import as_cell, cell_fits, row_sums, shelves_of
from twicemany.shapes import made_shape

MOST_ROWS = 16

KEPT = "kept"
RAW = "raw"
LOST = "lost"


class Rack:
    """Some rows of a shape, with how each shelf stands."""

    def __init__(self, shape, many):
        made_shape(shape)
        if not number_within(many, 1, MOST_ROWS):
            raise BadNumber(many)
        self.shape = shape
        self.rows = many
        self.ways = [KEPT] * shelves_of(shape)
        self.stripes = [[as_cell(shape, 0)] * shelves_of(shape) for _ in range(many)]

    def states(self):
        """How each shelf stands: kept, raw or lost."""
        return tuple(self.ways)

    def cell(self, row, shelf):
        """The cell that lies there, None if the shelf is lost."""
        self.check_row(row)
        self.check_shelf(shelf)
        return self.stripes[row][shelf]

    def left(self, row):
        """What is left of a row: None at each shelf that is raw or lost."""
        self.check_row(row)
        return tuple([cell if way == KEPT else None for cell, way in zip(self.stripes[row], self.ways)])

    def put(self, row, shelf, cell):
        """Write one cell; at a lost shelf it falls away."""
        self.check_row(row)
        self.check_shelf(shelf)
        if not cell_fits(self.shape, cell):
            raise BadCell(0)
        if self.ways[shelf] != LOST:
            self.stripes[row][shelf] = cell

    def lose(self, shelf):
        """Lose a shelf with all its cells."""
        self.check_shelf(shelf)
        others = [other for other, way in enumerate(self.ways) if way != KEPT and other != shelf]
        if len(others) + 1 > self.shape[4]:
            raise TooMany(len(others) + 1)
        self.ways[shelf] = LOST
        self.fill(shelf, None)

    def replace(self, shelf):
        """Put an empty shelf in the place of a lost one; it is not trusted yet."""
        self.check_shelf(shelf)
        if self.ways[shelf] != LOST:
            raise NotLost(shelf)
        self.ways[shelf] = RAW
        self.fill(shelf, as_cell(self.shape, 0))

    def trust(self):
        """Keep all raw shelves from now on."""
        for row in range(self.rows):
            if not is_whole(self.shape, self.left(row)):
                raise Unwhole(row)
        for row in range(self.rows):
            if not self.raw_right(row):
                raise Unlike(row)
        self.ways = [KEPT if way == RAW else way for way in self.ways]

    def raw_right(self, row):
        """Whether each raw shelf has the cell of this row's stripe; the row is whole."""
        full = told(self.shape, self.left(row))
        stripe = row_sums(self.shape, full) + full
        raw = [shelf for shelf, way in enumerate(self.ways) if way == RAW]
        return all([self.stripes[row][shelf] == stripe[shelf] for shelf in raw])

    def fill(self, shelf, cell):
        """Let a shelf have this cell in all rows."""
        for row in range(self.rows):
            self.stripes[row][shelf] = cell

    def check_row(self, row):
        """Refuse what is no number of a row."""
        if not number_within(row, 0, self.rows - 1):
            raise BadNumber(row)

    def check_shelf(self, shelf):
        """Refuse what is no number of a shelf."""
        if not number_within(shelf, 0, shelves_of(self.shape) - 1):
            raise BadShelf(shelf)
