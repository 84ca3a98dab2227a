"""Schemas, deals, keeps and books, told as texts ([61], [69])."""

from twicemany.checker import made_book
from twicemany.errors import BadNumber
from twicemany.forms import number_within
from twicemany.schemas import made_schema

# How fast the parts of what is joined by a word hold together; what has no word here needs no brackets.
LEVELS = {"add": 1, "sub": 1, "mul": 2, "or": 1, "and": 2, "not": 3}
LEVEL_OF_OTHERS = 4
SIGNS = {"add": " + ", "sub": " - ", "mul": " * ", "or": " or ", "and": " and ", "eq": " = ", "less": " < "}


def print_schema(bank, schema):
    """The text of a schema."""
    made_schema(bank, schema)
    return "; ".join([row_text(row) for row in schema])


def print_deal(bank, book, index):
    """The text of a deal of a book."""
    made_book(bank, book)
    if not number_within(index, 0, len(book[1]) - 1):
        raise BadNumber(index)
    return deal_text(book[1][index])


def print_keep(bank, book, index):
    """The text of a keep of a book."""
    made_book(bank, book)
    if not number_within(index, 0, len(book[2]) - 1):
        raise BadNumber(index)
    return keep_text(book[2][index])


def print_book(bank, book):
    """The texts of a book: of its schema, its deals, its keeps."""
    made_book(bank, book)
    schema, deals, keeps = book
    told = [print_schema(bank, schema)] + [deal_text(deal) for deal in deals]
    return tuple(told + [keep_text(keep) for keep in keeps])


def row_text(row):
    """The text of a row of a schema."""
    return "row " + ", ".join([f"{name} {size}" for name, size in row])


def deal_text(deal):
    """The text of a deal."""
    name, params, body = deal
    told = ", ".join([f"{sort} {param}" for param, sort in params])
    return f"deal {name}({told}) " + block_text(body)


def keep_text(keep):
    """The text of a keep."""
    return "keep " + test_text(keep)


def block_text(body):
    """The text of a block."""
    if body == ():
        return "{}"
    return "{ " + "; ".join([statement_text(statement) for statement in body]) + " }"


def statement_text(statement):
    """The text of a statement."""
    word = statement[0]
    if word == "need":
        return "need " + test_text(statement[1]) + " else " + statement[2]
    if word == "set":
        return statement[1][1] + " := " + number_text(statement[2])
    if word == "call":
        return statement[1] + "(" + ", ".join([arg_text(arg) for arg in statement[2]]) + ")"
    told = "if " + test_text(statement[1]) + " " + block_text(statement[2])
    return told if statement[3] == () else told + " else " + block_text(statement[3])


def arg_text(thing):
    """The text of what a call gives for a param."""
    return thing[1] if thing[0] == "rec" else number_text(thing)


def number_text(thing):
    """The text of a number."""
    word = thing[0]
    if word == "num":
        return str(thing[1])
    if word == "arg":
        return thing[1]
    if word == "worth":
        return thing[1][1]
    return bracketed(thing, number_text, "(", ")")


def test_text(thing):
    """The text of a test."""
    word, part = thing[0], thing[1]
    if word == "not":
        told = test_text(part)
        return "not [" + told + "]" if level_of(part) < LEVELS["not"] else "not " + told
    if word in ("eq", "less"):
        return number_text(part) + SIGNS[word] + number_text(thing[2])
    return bracketed(thing, test_text, "[", "]")


def bracketed(thing, tell, opening, closing):
    """The text of what is joined by a sign; its parts stand in brackets where they are needed."""
    word, one, other = thing
    left, right = tell(one), tell(other)
    if level_of(one) < level_of(thing):
        left = opening + left + closing
    if level_of(other) <= level_of(thing):
        right = opening + right + closing
    return left + SIGNS[word] + right


def level_of(thing):
    """How fast a number or a test holds together."""
    return LEVELS.get(thing[0], LEVEL_OF_OTHERS)
