"""Calls of deals ([46])."""

from twicemany.checker import made_book
from twicemany.dealcodes import deal_code, deal_named
from twicemany.deals import indexes_of
from twicemany.errors import BadArgs, Broken
from twicemany.formulas import Sight, broken_keeps
from twicemany.forms import number_within, tuple_of
from twicemany.houses import made_worths
from twicemany.runs import sets_from


def call(bank, book, worths, deal, args):
    """The worths behind a call of a deal."""
    made_book(bank, book)
    behind, _ = call_told(bank, book, worths, deal, args)
    return behind


def way(bank, book, worths, deal, args):
    """The numbers of the set rows that a call does, in their order."""
    made_book(bank, book)
    _, sets = call_told(bank, book, worths, deal, args)
    return tuple([row for row, _, _ in sets])


def call_told(bank, book, worths, deal, args):
    """Of what is known to be a book: the worths behind a call, and the sets that it does."""
    made_worths(book[0], worths)
    _, params, _ = deal_named(book, deal)
    numbers = arg_numbers(bank, book[0], params, args)
    given = {name: number for (name, _), number in zip(params, numbers)}
    sight = Sight(book[0], given, worths)
    sets = sets_from(book[0], deal_code(book, deal), 0, sight, True)
    broken = broken_keeps(book, sight.numbers)
    if broken != []:
        raise Broken(broken[0])
    return tuple(sight.numbers), sets


def arg_numbers(bank, schema, params, args):
    """The args of a call as numbers, of a record its index."""
    if not tuple_of(args, len(params)):
        raise BadArgs(-1)
    indexes = indexes_of(schema)
    numbers = []
    for index, (_, sort) in enumerate(params):
        number = args[index]
        if sort == "rec":
            number = indexes.get(number, -1) if isinstance(number, str) else -1
        if not number_within(number, 0, bank.top):
            raise BadArgs(index)
        numbers.append(number)
    return numbers
