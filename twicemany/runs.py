"""Codes of deals, done row by row ([46])."""

from twicemany.deals import records_of
from twicemany.errors import BadWorth, Needed
from twicemany.formulas import holds, number_told, record_told


def sets_from(schema, rows, at, sight, asked):
    """Do a code from one of its rows on; needs count only if they are asked.

    Returned are the sets that were done, as triples of the row of the code, the record and its number; the
    sight has these numbers then.
    """
    records = records_of(schema)
    found = []
    while rows[at][0] != "stop":
        row = rows[at]
        if row[0] == "need" and asked and not holds(sight, row[1]):
            raise Needed(row[2])
        if row[0] == "set":
            record = record_told(sight, row[1])
            number = number_told(sight, row[2])
            name, size = records[record]
            if not 0 <= number < size:
                raise BadWorth(name)
            sight.numbers[record] = number
            found.append((at, record, number))
        at = row_behind(row, at, sight)
    return found


def row_behind(row, at, sight):
    """The row with which a code goes on behind a row."""
    if row[0] == "jump":
        return row[1]
    if row[0] == "branch" and not holds(sight, row[1]):
        return row[2]
    return at + 1
