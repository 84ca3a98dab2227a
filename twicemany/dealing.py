"""Calls done on a bank by steps, and houses, which are opened behind any stop ([51] to [54])."""

from twicemany.calls import arg_numbers, call_told
from twicemany.checker import made_book
from twicemany.dealcodes import deal_code, deal_named
from twicemany.deals import HEAD, rack_rows, spots
from twicemany.houses import do_steps, worths_of
from twicemany.mends import whole_row
from twicemany.openings import begin_steps, end_steps, set_steps, steps_left


def steps(bank, book, deal, args):
    """The steps by which a call of a deal is done on a bank."""
    made_book(bank, book)
    worths = worths_of(bank, book[0])
    behind, sets = call_told(bank, book, worths, deal, args)
    changed = [record for record, number in enumerate(behind) if number != worths[record]]
    if changed == []:
        return ()
    if fits_one_step(bank, book[0], changed):
        return (one_step(book[0], changed, behind),)
    return long_steps(bank, book, deal, args, sets)


def fits_one_step(bank, schema, records):
    """Whether these records lie in one row of the rack, and are few enough for one transaction."""
    rows = [spots(schema)[record][0] for record in records]
    return len(rows) <= bank.most and rows[0] == rows[-1]


def one_step(schema, records, worths):
    """The step that gives rising records of one row the numbers that worths have for them."""
    places = [spots(schema)[record] for record in records]
    changes = [(cell, worths[record]) for (_, cell), record in zip(places, records)]
    return (places[0][0], tuple(changes))


def long_steps(bank, book, deal, args, sets):
    """The steps of a long call that does these sets."""
    schema, deals, _ = book
    found = deal_named(book, deal)
    begun = begin_steps(deals.index(found), arg_numbers(bank, schema, found[1], args), sets[0][0])
    done = set_steps(schema, sets, len(deal_code(book, deal)) - 1)
    rows = [spots(schema)[record][0] for _, record, _ in sets]
    return tuple(begun + done + end_steps([row for row in rack_rows(schema) if row in rows]))


def rest(bank, book):
    """The steps that are left of a long call, told by what lies in the bank."""
    made_book(bank, book)
    return steps_left(book, {row: bank.row(row) for row in house_rows(book)})


def house_rows(book):
    """The rows of the rack in which a house has anything."""
    return [HEAD] + rack_rows(book[0])


class House:
    """A bank with a book; when it is made, what was stopped is done to its end."""

    def __init__(self, bank, book):
        made_book(bank, book)
        code = bank.mended()
        left = steps_left(book, {row: whole_row(bank.rack, row) for row in house_rows(book)})
        bank.do(code)
        do_steps(bank, left)
        self.bank = bank
        self.book = book
