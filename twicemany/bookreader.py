"""Schemas, deals, keeps and books, read from texts ([60] to [68])."""

from twicemany.checker import DEEPEST_BODY, MOST_DEALS, MOST_KEEPS, MOST_STATEMENTS, SORTS, made_book, most_params
from twicemany.errors import BadNumber, BadRow, BadSchema, BadText, NoName, Refused, TooDeep, TooMany, Twice
from twicemany.formulareader import read_sum, read_test
from twicemany.schemas import bank_fits, is_name, most_records, most_rows
from twicemany.scopes import Scope
from twicemany.texts import Words


def read_schema(bank, text):
    """The schema that a text tells."""
    if not bank_fits(bank):
        raise BadSchema(-1)
    return schema_read(bank, Words(text))


def read_deal(bank, book, text):
    """The deal that a text tells, behind those of a book."""
    made_book(bank, book)
    return deal_read(bank, book, Words(text))


def read_keep(bank, book, text):
    """The keep that a text tells, behind those of a book."""
    made_book(bank, book)
    return keep_read(book, Words(text))


def read_book(bank, texts):
    """The book that texts tell: its schema, then its deals, then its keeps."""
    if not bank_fits(bank):
        raise BadSchema(-1)
    if not isinstance(texts, tuple) or texts == ():
        raise BadRow((-1, 0))
    book = ((), (), ())
    for number, text in enumerate(texts):
        try:
            book = book_with(bank, book, Words(text))
        except Refused as error:
            raise BadRow((number, error.what))
    return made_book(bank, book)


def book_with(bank, book, words):
    """A book with what one more text tells."""
    schema, deals, keeps = book
    if schema == ():
        return schema_read(bank, words), deals, keeps
    if words.word() == "deal" and keeps == ():
        return schema, deals + (deal_read(bank, book, words),), keeps
    # No other word can stand first than that of a keep.
    return schema, deals, keeps + (keep_read(book, words),)


def schema_read(bank, words):
    """A schema, to the end of the text."""
    names = {}
    rows = words.listed(";", lambda ahead: row_read(bank, words, ahead, names))
    words.take_end()
    return rows


def row_read(bank, words, ahead, names):
    """A row of a schema, behind so many rows with these names."""
    place = words.place()
    words.take(("row",))
    if ahead == most_rows(bank):
        raise TooMany(place)
    return words.listed(",", lambda before: record_read(bank, words, before, names))


def record_read(bank, words, ahead, names):
    """A record, behind so many of its row; its name is taken then."""
    place = words.place()
    name = words.take_name()
    if ahead == most_records(bank):
        raise TooMany(place)
    if name in names:
        raise Twice(place)
    names[name] = True
    place = words.place()
    size = words.take_number()
    if not 2 <= size <= bank.top + 1:
        raise BadNumber(place)
    return name, size


def deal_read(bank, book, words):
    """A deal, to the end of the text."""
    schema, deals, _ = book
    place = words.place()
    words.take(("deal",))
    if len(deals) == MOST_DEALS:
        raise TooMany(place)
    scope = Scope(schema, (), deals)
    name = new_name(words, scope, "")
    words.take(("(",))
    params = ()
    if words.word() != ")":
        params = words.listed(",", lambda ahead: param_read(bank, words, scope, name, ahead))
    words.take((")",))
    body = block_read(words, scope, 1)
    words.take_end()
    return name, params, body


def new_name(words, scope, own):
    """A name that nothing of the scope has, nor the deal itself."""
    place = words.place()
    name = words.take_name()
    if name == own or scope.taken(name):
        raise Twice(place)
    return name


def param_read(bank, words, scope, own, ahead):
    """A param of the deal of a name, behind so many others; its name is taken then."""
    place = words.place()
    sort = words.take(SORTS)
    if ahead == most_params(bank):
        raise TooMany(place)
    name = new_name(words, scope, own)
    scope.params[name] = sort
    return name, sort


def keep_read(book, words):
    """A keep, to the end of the text."""
    place = words.place()
    words.take(("keep",))
    if len(book[2]) == MOST_KEEPS:
        raise TooMany(place)
    test = read_test(words, Scope(book[0], (), ()))
    words.take_end()
    return test


def block_read(words, scope, deep):
    """A block, whose body lies so deep."""
    place = words.place()
    words.take(("{",))
    if deep > DEEPEST_BODY:
        raise TooDeep(place)
    body = ()
    if words.word() != "}":
        body = words.listed(";", lambda ahead: statement_read(words, scope, deep, ahead))
    words.take(("}",))
    return body


def statement_read(words, scope, deep, ahead):
    """A statement of a body that lies so deep, behind so many others."""
    place = words.place()
    word = words.word()
    if word not in ("need", "if") and not is_name(word):
        raise BadText(place)
    if ahead == MOST_STATEMENTS:
        raise TooMany(place)
    words.go_on()
    if word == "need":
        test = read_test(words, scope)
        words.take(("else",))
        return ("need", test, words.take_name())
    if word == "if":
        return if_read(words, scope, deep)
    rec = scope.rec_named(word)
    if rec is not None:
        words.take((":=",))
        return ("set", rec, read_sum(words, scope))
    if word not in scope.deals:
        raise NoName(place)
    return ("call", word, args_read(words, scope, scope.deals[word]))


def if_read(words, scope, deep):
    """What stands behind the word "if"."""
    test = read_test(words, scope)
    first = block_read(words, scope, deep + 1)
    second = ()
    if words.word() == "else":
        words.go_on()
        second = block_read(words, scope, deep + 1)
    return ("if", test, first, second)


def args_read(words, scope, params):
    """The args of a deal that is called, with their brackets."""
    words.take(("(",))
    args = []
    for _, sort in params:
        if args != []:
            words.take((",",))
        args.append(rec_read(words, scope) if sort == "rec" else read_sum(words, scope))
    words.take((")",))
    return tuple(args)


def rec_read(words, scope):
    """The name of a record, or of a param that stands for one."""
    place = words.place()
    rec = scope.rec_named(words.take_name())
    if rec is None:
        raise NoName(place)
    return rec
