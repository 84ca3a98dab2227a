"""Numbers and tests, read from texts ([62] to [64])."""

from twicemany.errors import BadNumber, NoName, TooDeep
from twicemany.formulas import DEEPEST, GREATEST_NUM
from twicemany.texts import tells_number

WORDS = {"+": "add", "-": "sub", "*": "mul", "=": "eq", "<": "less", "and": "and", "or": "or"}


def read_sum(words, scope):
    """The number that a sum tells."""
    return sum_told(words, scope)[0]


def read_test(words, scope):
    """The test that stands next."""
    return test_told(words, scope)[0]


# Each function below returns what it has read and how deep that is.


def joined(words, scope, signs, read_part):
    """One or more parts with one of these signs between them, joined from the left."""
    whole, deep = read_part(words, scope)
    while words.word() in signs:
        place = words.place()
        sign = words.take(signs)
        part, other = read_part(words, scope)
        deep = deeper(max(deep, other), place)
        whole = (WORDS[sign], whole, part)
    return whole, deep


def deeper(deep, place):
    """How deep it is what a word at this place makes of parts so deep."""
    if deep == DEEPEST:
        raise TooDeep(place)
    return deep + 1


def sum_told(words, scope):
    """A sum."""
    return joined(words, scope, ("+", "-"), product_told)


def product_told(words, scope):
    """A product."""
    return joined(words, scope, ("*",), atom_told)


def atom_told(words, scope):
    """An atom."""
    place = words.place()
    word = words.word()
    if word == "(":
        words.take_bracket()
        told = sum_told(words, scope)
        words.take_closing(")")
        return told
    if tells_number(word):
        number = words.take_number()
        if number > GREATEST_NUM:
            raise BadNumber(place)
        return ("num", number), 1
    number = scope.number_named(words.take_name())
    if number is None:
        raise NoName(place)
    return number, 1


def test_told(words, scope):
    """A test."""
    return joined(words, scope, ("or",), both_told)


def both_told(words, scope):
    """A both-part."""
    return joined(words, scope, ("and",), not_told)


def not_told(words, scope):
    """A not-part."""
    # There may be more of "not" than a recursion could go through.
    places = []
    while words.word() == "not":
        places.append(words.place())
        words.go_on()
    test, deep = plain_told(words, scope)
    for place in places[::-1]:
        deep = deeper(deep, place)
        test = ("not", test)
    return test, deep


def plain_told(words, scope):
    """A not-part without "not"."""
    if words.word() == "[":
        words.take_bracket()
        told = test_told(words, scope)
        words.take_closing("]")
        return told
    one = read_sum(words, scope)
    sign = words.take(("=", "<"))
    return (WORDS[sign], one, read_sum(words, scope)), 1
