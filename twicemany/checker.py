"""Books: which schemas, deals and keeps go together ([41] to [44])."""

from twicemany.errors import BadBook, BadDeal, BadKeep, TooLong
from twicemany.formulas import DEEPEST, number_fits, rec_fits, test_fits
from twicemany.forms import tuple_of
from twicemany.lengths import first_too_long
from twicemany.schemas import is_name, made_schema
from twicemany.scopes import Scope

MOST_DEALS = 30
MOST_KEEPS = 8
MOST_PARAMS = 4
MOST_STATEMENTS = 30
DEEPEST_BODY = 5
SORTS = ("rec", "num")


def made_book(bank, thing):
    """Thing as a book for the bank."""
    if not tuple_of(thing, 3) or not tuple_up_to(thing[1], MOST_DEALS) or not tuple_up_to(thing[2], MOST_KEEPS):
        raise BadBook(-1)
    schema, deals, keeps = thing
    made_schema(bank, schema)
    for index, deal in enumerate(deals):
        place = deal_fault(bank, schema, deals[:index], deal)
        if place is not None:
            raise BadDeal((index, place))
    long = first_too_long(deals)
    if long is not None:
        raise TooLong(long)
    scope = Scope(schema, (), ())
    for index, keep in enumerate(keeps):
        if not test_fits(scope, keep, DEEPEST):
            raise BadKeep(index)
    return thing


def tuple_up_to(thing, most):
    """Whether thing is a tuple of at most so many parts."""
    return isinstance(thing, tuple) and len(thing) <= most


def most_params(bank):
    """How many params a deal may have on this bank."""
    return min(MOST_PARAMS, bank.cells - 2)


def deal_fault(bank, schema, ahead, thing):
    """The place that BadDeal tells of thing, or None of a deal behind those ahead."""
    if not tuple_of(thing, 3) or not tuple_up_to(thing[2], MOST_STATEMENTS):
        return (-1,)
    name, params, body = thing
    if not is_name(name) or Scope(schema, (), ahead).taken(name) or not tuple_up_to(params, most_params(bank)):
        return (-1,)
    for index, param in enumerate(params):
        if not param_fits(Scope(schema, params[:index], ahead), name, param):
            return (-1,)
    return bad_place(Scope(schema, params, ahead), body, 1)


def param_fits(scope, own, thing):
    """Whether thing is a param of the deal of this name, behind the names that are taken."""
    if not tuple_of(thing, 2) or not is_name(thing[0]) or thing[1] not in SORTS:
        return False
    return thing[0] != own and not scope.taken(thing[0])


def bad_place(scope, body, deep):
    """The place of the first bad statement of a body that lies so deep, or None."""
    for index, statement in enumerate(body):
        if not statement_fits(scope, statement, deep):
            return (index,)
        bodies = statement[2:] if statement[0] == "if" else ()
        for number, inner in enumerate(bodies):
            place = bad_place(scope, inner, deep + 1)
            if place is not None:
                return (index, number) + place
    return None


def statement_fits(scope, thing, deep):
    """Whether thing is a statement of a body that lies so deep; what stands in its bodies is not looked at."""
    if tuple_of(thing, 4):
        word, test, first, second = thing
        if word != "if" or deep == DEEPEST_BODY or not test_fits(scope, test, DEEPEST):
            return False
        return tuple_up_to(first, MOST_STATEMENTS) and tuple_up_to(second, MOST_STATEMENTS)
    if not tuple_of(thing, 3):
        return False
    word, one, other = thing
    if word == "need":
        return test_fits(scope, one, DEEPEST) and is_name(other)
    if word == "set":
        return rec_fits(scope, one) and number_fits(scope, other, DEEPEST)
    return word == "call" and isinstance(one, str) and one in scope.deals and args_fit(scope, scope.deals[one], other)


def args_fit(scope, params, thing):
    """Whether thing has a REC for each param that is a record, and an E for each number."""
    return tuple_of(thing, len(params)) and all([arg_fits(scope, sort, arg) for (_, sort), arg in zip(params, thing)])


def arg_fits(scope, sort, thing):
    """Whether thing is what a call may give for a param of this sort."""
    return rec_fits(scope, thing) if sort == "rec" else number_fits(scope, thing, DEEPEST)
