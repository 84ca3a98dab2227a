"""The rows of a desk, read from texts ([70])."""

from twicemany.audits import OF_ROWS
from twicemany.errors import NoName
from twicemany.scopes import Scope
from twicemany.texts import Words


def row_read(book, text):
    """What a row asks for: a tuple of its word and what belongs to it."""
    words = Words(text)
    scope = Scope(book[0], (), book[1])
    if words.word() == "show":
        words.go_on()
        told = ("show", record_read(words, scope))
    elif words.word() == "audit":
        words.go_on()
        told = ("audit", question_read(words))
    else:
        hand = words.take_name()
        word = words.take(("does", "undo", "redo"))
        told = (word, hand) + (call_read(words, scope) if word == "does" else ())
    words.take_end()
    return told


def record_read(words, scope):
    """The name of a record."""
    place = words.place()
    name = words.take_name()
    if name not in scope.records:
        raise NoName(place)
    return name


def call_read(words, scope):
    """The name of a deal, and its args."""
    place = words.place()
    deal = words.take_name()
    if deal not in scope.deals:
        raise NoName(place)
    words.take(("(",))
    args = []
    for _, sort in scope.deals[deal]:
        if args != []:
            words.take((",",))
        args.append(record_read(words, scope) if sort == "rec" else words.take_number())
    words.take((")",))
    return deal, tuple(args)


def question_read(words):
    """The question of an audit."""
    word = words.take(OF_ROWS + ("above", "keeps"))
    if word == "keeps":
        return (word,)
    limit = (words.take_number(),) if word == "above" else ()
    return (word,) + limit + (words.listed(",", lambda ahead: words.take_number()),)
