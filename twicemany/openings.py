"""How a house does a long call, and what is left of one when it is opened ([51], [52])."""

from twicemany.dealcodes import deal_code
from twicemany.deals import ARGS, DEAL, HEAD, MARK, PLACE, rack_rows, records_of, spots
from twicemany.errors import BadPlace, BadWorth
from twicemany.formulas import Sight, record_told
from twicemany.runs import sets_from


def number_step(row, cell, number):
    """The step that gives one cell a number."""
    return (row, ((cell, number),))


def begin_steps(number, args, first):
    """The steps that write down which deal of the book is called, with which args, and the row that comes first."""
    written = [number_step(HEAD, DEAL, number + 1)]
    written = written + [number_step(HEAD, ARGS + i, arg) for i, arg in enumerate(args)]
    return written + [number_step(HEAD, PLACE, first + 1)]


def set_steps(schema, sets, stop):
    """Both steps of each set, as triples of a row of the code, a record and its number; behind them comes stop."""
    places = spots(schema)
    behind = [row for row, _, _ in sets[1:]] + [stop]
    found = []
    for (row, record, number), following in zip(sets, behind):
        rack_row, cell = places[record]
        found.append((rack_row, ((MARK, row + 1), (cell, number))))
        found.append(number_step(HEAD, PLACE, following + 1))
    return found


def end_steps(rows):
    """The steps that take away the MARKs of these rows of the rack, and then PLACE."""
    return [number_step(row, MARK, 0) for row in rows] + [number_step(HEAD, PLACE, 0)]


def steps_left(book, cells):
    """The steps that are left of a long call, told by what lies in row 0 and the rows of the schema."""
    schema = book[0]
    place = cells[HEAD][PLACE][0]
    if place == 0:
        return ()
    deal, given = call_written(book, cells, place)
    rows = deal_code(book, deal)
    if place > len(rows) or rows[place - 1][0] not in ("set", "stop"):
        raise BadPlace(place)
    sight = Sight(schema, given, [cells[row][cell][0] for row, cell in spots(schema)])
    marks = {row: cells[row][MARK][0] for row in rack_rows(schema)}
    begun = set_begun(schema, rows[place - 1], place, sight, marks)
    try:
        sets = sets_from(schema, rows, place if begun else place - 1, sight, False)
    except BadWorth:
        raise BadPlace(place)
    following = sets[0][0] if sets != [] else len(rows) - 1
    told = [number_step(HEAD, PLACE, following + 1)] if begun else []
    for row, record, _ in sets:
        marks[spots(schema)[record][0]] = row + 1
    told = told + set_steps(schema, sets, len(rows) - 1)
    return tuple(told + end_steps([row for row in rack_rows(schema) if marks[row] != 0]))


def call_written(book, cells, place):
    """The name of the deal that is written in row 0, and the args by the names of its params."""
    schema, deals, _ = book
    number = cells[HEAD][DEAL][0]
    if not 1 <= number <= len(deals):
        raise BadPlace(place)
    deal, params, _ = deals[number - 1]
    given = {}
    for i, (name, sort) in enumerate(params):
        given[name] = cells[HEAD][ARGS + i][0]
        if sort == "rec" and given[name] >= len(records_of(schema)):
            raise BadPlace(place)
    return deal, given


def set_begun(schema, row, place, sight, marks):
    """Whether a row of the code is a set whose record has its number already: the MARK beside it tells."""
    return row[0] == "set" and marks[spots(schema)[record_told(sight, row[1])][0]] == place
