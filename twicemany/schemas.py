"""Schemas: which records there are, and how great they may be ([37])."""

from twicemany.errors import BadSchema
from twicemany.forms import number_within, tuple_of

RESERVED = ("row", "deal", "rec", "num", "need", "else", "if", "keep", "does", "show", "audit", "sum", "least",
            "most", "above", "keeps", "undo", "redo", "not", "and", "or")
SMALL_LETTERS = "abcdefghijklmnopqrstuvwxyz"
FIGURES = "0123456789"
LONGEST_NAME = 12
MOST_ROWS = 15
MOST_RECORDS = 7


def made_schema(bank, thing):
    """Thing as a schema for the bank."""
    if not isinstance(thing, tuple) or thing == () or not bank_fits(bank):
        raise BadSchema(-1)
    names = {}
    for index, row in enumerate(thing):
        if index >= most_rows(bank) or not row_fits(bank, row, names):
            raise BadSchema(index)
        for name, _ in row:
            names[name] = True
    return thing


def bank_fits(bank):
    """Whether a bank is great enough for any schema."""
    return bank.most >= 2 and bank.top >= 256 and bank.cells >= 3


def most_rows(bank):
    """How many rows a schema may have on a bank."""
    return min(bank.rows - 1, MOST_ROWS)


def most_records(bank):
    """How many records a row of a schema may have on a bank."""
    return min(bank.cells - 1, MOST_RECORDS)


def row_fits(bank, row, names):
    """Whether row is a row of a schema, with none of the names that are taken and no name twice."""
    if not isinstance(row, tuple) or not 1 <= len(row) <= most_records(bank):
        return False
    if not all([record_fits(bank, pair) for pair in row]):
        return False
    own = [name for name, _ in row]
    return all([name not in names and name not in own[:place] for place, name in enumerate(own)])


def record_fits(bank, pair):
    """Whether pair is a name and a size."""
    return tuple_of(pair, 2) and is_name(pair[0]) and number_within(pair[1], 2, bank.top + 1)


def is_name(thing):
    """Whether thing is a name: no reserved word, and short."""
    if not isinstance(thing, str) or not 1 <= len(thing) <= LONGEST_NAME or thing in RESERVED:
        return False
    return thing[0] in SMALL_LETTERS and all([sign in SMALL_LETTERS or sign in FIGURES for sign in thing])
