"""Numbers and tests of deals and keeps: their forms, and what they tell ([42]).

In what follows a REC, an E and a T are what the document calls so.
"""

from twicemany.deals import indexes_of
from twicemany.forms import number_within, tuple_of

DEEPEST = 5
GREATEST_NUM = 9999
JOINED_NUMBERS = ("add", "sub", "mul")
COMPARED = ("eq", "less")
JOINED_TESTS = ("and", "or")


def rec_fits(scope, thing):
    """Whether thing is a REC."""
    if not tuple_of(thing, 2) or not isinstance(thing[1], str):
        return False
    return thing == scope.rec_named(thing[1])


def number_fits(scope, thing, deep):
    """Whether thing is an E, at most so deep."""
    if deep == 0:
        return False
    if tuple_of(thing, 3) and thing[0] in JOINED_NUMBERS:
        return number_fits(scope, thing[1], deep - 1) and number_fits(scope, thing[2], deep - 1)
    if not tuple_of(thing, 2):
        return False
    word, part = thing
    if word == "num":
        return number_within(part, 0, GREATEST_NUM)
    if word == "worth":
        return rec_fits(scope, part)
    return word == "arg" and isinstance(part, str) and scope.params.get(part) == "num"


def test_fits(scope, thing, deep):
    """Whether thing is a T, at most so deep."""
    if deep == 0:
        return False
    if tuple_of(thing, 2):
        return thing[0] == "not" and test_fits(scope, thing[1], deep - 1)
    if not tuple_of(thing, 3):
        return False
    word, one, other = thing
    if word in COMPARED:
        return number_fits(scope, one, DEEPEST) and number_fits(scope, other, DEEPEST)
    return word in JOINED_TESTS and test_fits(scope, one, deep - 1) and test_fits(scope, other, deep - 1)


def numbers_in(thing):
    """The Es that a T compares."""
    if thing[0] in COMPARED:
        return [thing[1], thing[2]]
    return [number for part in thing[1:] for number in numbers_in(part)]


class Sight:
    """What numbers and tests look at: where records stand, the args by the names of params, the worths by index."""

    def __init__(self, schema, given, worths):
        self.indexes = indexes_of(schema)
        self.given = given
        self.numbers = list(worths)


def record_told(sight, rec):
    """The index of the record that a REC tells."""
    word, name = rec
    return sight.indexes[name] if word == "rec" else sight.given[name]


def number_told(sight, thing):
    """The number that an E tells."""
    word = thing[0]
    if word == "num":
        return thing[1]
    if word == "arg":
        return sight.given[thing[1]]
    if word == "worth":
        return sight.numbers[record_told(sight, thing[1])]
    one = number_told(sight, thing[1])
    other = number_told(sight, thing[2])
    if word == "add":
        return one + other
    return one - other if word == "sub" else one * other


def holds(sight, thing):
    """Whether a T is so."""
    word = thing[0]
    if word == "not":
        return not holds(sight, thing[1])
    if word == "and":
        return holds(sight, thing[1]) and holds(sight, thing[2])
    if word == "or":
        return holds(sight, thing[1]) or holds(sight, thing[2])
    one = number_told(sight, thing[1])
    other = number_told(sight, thing[2])
    return one == other if word == "eq" else one < other


def broken_keeps(book, worths):
    """The indices of the keeps of a book that are not so with these worths."""
    sight = Sight(book[0], {}, worths)
    return [index for index, keep in enumerate(book[2]) if not holds(sight, keep)]
