"""The worths of a bank's records, and the steps that are done on it ([39], [40])."""

from twicemany.deals import HEAD, MARK, PLACE, rack_rows, spots
from twicemany.errors import BadWorths
from twicemany.forms import number_within, tuple_of
from twicemany.rows import as_cell
from twicemany.schemas import made_schema


def made_worths(schema, worths):
    """Worths as those of the schema."""
    sizes = [size for row in schema for _, size in row]
    if not tuple_of(worths, len(sizes)):
        raise BadWorths(-1)
    for index, size in enumerate(sizes):
        if not number_within(worths[index], 0, size - 1):
            raise BadWorths(index)
    return worths


def worths_of(bank, schema):
    """The numbers of the records as they lie in the bank."""
    made_schema(bank, schema)
    rows = {row: bank.row(row) for row in rack_rows(schema)}
    return tuple([rows[row][cell][0] for row, cell in spots(schema)])


def do_steps(bank, steps):
    """Do steps in order, each as the bank lies when its turn comes."""
    for row, changes in steps:
        cells = tuple([(x, as_cell(bank.rack.shape, number)) for x, number in changes])
        bank.do(bank.changed(row, cells))


def lay(bank, schema, worths):
    """The steps that bring a bank to rest with these worths."""
    made_schema(bank, schema)
    made_worths(schema, worths)
    steps = [(row, ((MARK, 0),)) for row in rack_rows(schema)]
    steps.append((HEAD, ((PLACE, 0),)))
    for (row, cell), number in zip(spots(schema), worths):
        steps.append((row, ((cell, number),)))
    return tuple(steps)
