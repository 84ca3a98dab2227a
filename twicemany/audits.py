"""Questions asked of the worths of a book ([55])."""

from twicemany.errors import BadQuestion
from twicemany.formulas import broken_keeps
from twicemany.forms import number_within, rising_below, tuple_of
from twicemany.houses import made_worths

OF_ROWS = ("sum", "least", "most")


def audit(book, worths, question):
    """The answer to a question."""
    made_worths(book[0], worths)
    if question == ("keeps",):
        return tuple(broken_keeps(book, worths))
    if not question_fits(book[0], question):
        raise BadQuestion(-1)
    numbers = numbers_of(book[0], worths, question[-1])
    word = question[0]
    if word == "above":
        return len([number for number in numbers if number > question[1]])
    if word == "sum":
        return sum(numbers)
    return min(numbers) if word == "least" else max(numbers)


def question_fits(schema, thing):
    """Whether thing is a question of rows of the schema."""
    if tuple_of(thing, 2):
        return thing[0] in OF_ROWS and rows_fit(schema, thing[1])
    if not tuple_of(thing, 3) or thing[0] != "above":
        return False
    return isinstance(thing[1], int) and not isinstance(thing[1], bool) and rows_fit(schema, thing[2])


def rows_fit(schema, thing):
    """Whether thing tells rows of the schema, one at least."""
    return thing != () and rising_below(thing, len(schema))


def numbers_of(schema, worths, rows):
    """The worths of all records in these rows."""
    homes = [index for index, row in enumerate(schema) for _ in row]
    return [number for home, number in zip(homes, worths) if home in rows]
