"""Codes: batches of writes, done one behind another, and stopped anywhere ([29], [30])."""

from twicemany.errors import BadCode, BadStop
from twicemany.forms import number_within, rising_below, tuple_of
from twicemany.rows import cell_fits, shelves_of


def made_code(rack, thing):
    """Thing as a code for the rack."""
    if not isinstance(thing, tuple):
        raise BadCode(-1)
    for index, batch in enumerate(thing):
        if not batch_fits(rack, batch):
            raise BadCode(index)
    return thing


def batch_fits(rack, batch):
    """Whether batch is one write or more of one row of the rack, their shelves rising."""
    if not isinstance(batch, tuple) or batch == ():
        return False
    if not all([write_fits(rack, write) for write in batch]):
        return False
    # That the shelves rise tells of each that it is one.
    shelves = tuple([write[1] for write in batch])
    return rising_below(shelves, shelves_of(rack.shape)) and all([write[0] == batch[0][0] for write in batch])


def write_fits(rack, write):
    """Whether write is a triple of a row of the rack, something, and a cell."""
    if not tuple_of(write, 3):
        return False
    row, _, cell = write
    return number_within(row, 0, rack.rows - 1) and cell_fits(rack.shape, cell)


def do(rack, code):
    """Do all of a code."""
    made_code(rack, code)
    for batch in code:
        do_writes(rack, batch)


def stop(rack, code, many, came):
    """Do the first many batches of a code, and of the next one just the writes whose indices are in came."""
    made_code(rack, code)
    if not number_within(many, 0, len(code)):
        raise BadStop(0)
    last = code[many] if many < len(code) else ()
    if not rising_below(came, len(last)):
        raise BadStop(1)
    for batch in code[:many]:
        do_writes(rack, batch)
    do_writes(rack, [last[index] for index in came])


def do_writes(rack, writes):
    """Do some writes; those to lost shelves fall away."""
    for row, shelf, cell in writes:
        rack.put(row, shelf, cell)


def code_of(lots):
    """The code of these lists of writes, a batch for each that has any."""
    return tuple([tuple(writes) for writes in lots if writes != []])
