"""The codes of deals, and how much a deal sets ([43], [45])."""

from twicemany.checker import made_book
from twicemany.deals import indexes_of, spots
from twicemany.errors import NoDeal
from twicemany.lengths import row_counts, rows_in

# More unlike records than this are not told apart by `most`.
MOST_TOLD = 4


def code(bank, book, deal):
    """The code of the deal of a name."""
    made_book(bank, book)
    return deal_code(book, deal)


def most(bank, book, deal):
    """The greatest number of unlike RECs that one way through the code sets, 4 for more."""
    made_book(bank, book)
    return most_set(deal_code(book, deal))


def reach(bank, book, deal):
    """The rows of the rack in which the deal sets records; None if that is told by its args."""
    made_book(bank, book)
    return rows_set(book[0], deal_code(book, deal))


def kind(bank, book, deal):
    """Whether each call of the deal can be one transaction ("whole"), or that is told by the call ("by call")."""
    made_book(bank, book)
    told = deal_code(book, deal)
    rows = rows_set(book[0], told)
    return "whole" if most_set(told) <= bank.most and rows is not None and len(rows) <= 1 else "by call"


def deal_named(book, name):
    """The deal of a name, in what is known to be a book."""
    for deal in book[1]:
        if deal[0] == name:
            return deal
    raise NoDeal(name)


def deal_code(book, name):
    """The code of the deal of a name, in what is known to be a book."""
    counts = row_counts(book[1])
    rows = []
    # What is still to be done, the next one last: a statement, or a jump that is told already, and what
    # is given for the params in it. So many calls within one another need no deep recursion.
    waiting = []
    put_body(waiting, deal_named(book, name)[2], {})
    while waiting != []:
        statement, given = waiting.pop()
        word = statement[0]
        if word == "if":
            first, second = statement[2:]
            behind = len(rows) + rows_in(first, counts) + 2
            rows.append(("branch", with_args(statement[1], given), behind))
            put_body(waiting, second, given)
            waiting.append((("jump", behind + rows_in(second, counts)), given))
            put_body(waiting, first, given)
        elif word != "call":
            rows.append(with_args(statement, given))
        elif counts[statement[1]] > 0:
            # Calls without rows could stand within one another too often to go through them.
            _, params, body = deal_named(book, statement[1])
            put_body(waiting, body, {param: with_args(arg, given) for (param, _), arg in zip(params, statement[2])})
    return tuple(rows) + (("stop",),)


def put_body(waiting, body, given):
    """Put the statements of a body ahead of what is still to be done."""
    for statement in body[::-1]:
        waiting.append((statement, given))


def with_args(thing, given):
    """A statement, or a part of one, with what is given in place of params."""
    if not isinstance(thing, tuple):
        return thing
    if thing[0] == "arg":
        return given.get(thing[1], thing)
    return tuple([with_args(part, given) for part in thing])


def most_set(rows):
    """How many unlike RECs one way through a code sets at most, 4 for more."""
    bits = rec_bits(rows)
    # For each row: lots of RECs that are set ahead of it on some way, as bits of a number, and how many each has.
    lots = [{} for _ in rows]
    lots[0][0] = 0
    for at, row in enumerate(rows):
        here = lots[at]
        if row[0] == "set":
            here = with_bit(here, bits[row[1]])
            if max(list(here.values())) >= MOST_TOLD:
                return MOST_TOLD
        for behind in rows_behind(row, at):
            lots[behind].update(here)
    return max(list(lots[-1].values()))


def rec_bits(rows):
    """A bit of its own for each REC that a code sets."""
    bits = {}
    for row in rows:
        if row[0] == "set" and row[1] not in bits:
            bits[row[1]] = 1 << len(bits)
    return bits


def with_bit(lots, bit):
    """Lots of RECs, each with one more REC in it."""
    return {lot | bit: many if lot & bit else many + 1 for lot, many in lots.items()}


def rows_behind(row, at):
    """The rows with which a way can go on behind a row."""
    if row[0] == "stop":
        return []
    if row[0] == "jump":
        return [row[1]]
    return [at + 1, row[2]] if row[0] == "branch" else [at + 1]


def rows_set(schema, rows):
    """The rows of the rack with the records that a code sets; None if it sets a param."""
    recs = [row[1] for row in rows if row[0] == "set"]
    if any([word == "arg" for word, _ in recs]):
        return None
    places = spots(schema)
    indexes = indexes_of(schema)
    found = {places[indexes[name]][0]: True for _, name in recs}
    return tuple(sorted(found))
