"""How long and how deep the codes of deals are, told without building them ([43], [44])."""

from twicemany.formulas import DEEPEST, numbers_in

LONGEST_CODE = 200
# Under this word, which is no name, stands how deep what is no param lies.
NO_PARAM = ""


def first_too_long(deals):
    """The index of the first deal that is too long, or None."""
    counts = row_counts(deals)
    levels = levels_of(deals)
    for index, (name, _, _) in enumerate(deals):
        deepest = max(list(levels[name].values()), default=0)
        if counts[name] + 1 > LONGEST_CODE or deepest > DEEPEST:
            return index
    return None


def row_counts(deals):
    """How many rows the code of each deal has, by name, the stop not counted."""
    counts = {}
    for name, _, body in deals:
        counts[name] = rows_in(body, counts)
    return counts


def rows_in(body, counts):
    """How many rows a body makes."""
    return sum([own_rows(statement, counts) for statement in flat(body)])


def own_rows(statement, counts):
    """How many rows a statement makes, those of its bodies not counted."""
    if statement[0] == "call":
        return counts[statement[1]]
    return 2 if statement[0] == "if" else 1


def flat(body):
    """All statements of a body, and of the bodies in it."""
    found = []
    for statement in body:
        found.append(statement)
        if statement[0] == "if":
            found = found + flat(statement[2]) + flat(statement[3])
    return found


def levels_of(deals):
    """For each deal, by name: how deep each of its params, and what is none, lies in the numbers of its code."""
    known = {}
    wanted = {name: params for name, params, _ in deals}
    for name, _, body in deals:
        levels = {}
        for statement in flat(body):
            for number, level in numbers_at(statement, wanted, known):
                note_levels(levels, number, level)
        known[name] = levels
    return known


def numbers_at(statement, wanted, known):
    """The numbers that a statement brings into the code, each with how deep it lies there."""
    word = statement[0]
    if word == "set":
        return [(statement[2], 1)]
    if word != "call":
        return [(number, 1) for number in numbers_in(statement[1])]
    # A param that stands in no number of the code brings nothing into it.
    _, deal, args = statement
    levels = known[deal]
    return [(arg, levels[name]) for (name, _), arg in zip(wanted[deal], args) if name in levels]


def note_levels(levels, number, level):
    """Note how deep the parts of a number lie that lies at this level."""
    if number[0] in ("num", "worth", "arg"):
        part = number[1] if number[0] == "arg" else NO_PARAM
        levels[part] = max(levels.get(part, 0), level)
        return
    for part in number[1:]:
        note_levels(levels, part, level + 1)
