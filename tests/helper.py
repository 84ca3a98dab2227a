"""What several tests need: stories listed one by one and deals read plainly, as the document
defines them, with nothing of the package but its errors; and tables, banks, books and values to test with."""

import unittest
from functools import lru_cache
from itertools import combinations, product

from twicemany.banks import Bank
from twicemany.errors import BadWorth, Broken, Needed
from twicemany.racks import Rack

# Values that are none of the kinds asked for, for judges and for "wrong kind" tests.
ODD = (None, True, False, "", "ab", 0, -1, 10 ** 900, (), ((),), (None,), (True,), ("a", 1), ((1, 2), (3,)))


def nested(depth):
    """A tuple in a tuple, so deep."""
    thing = 1
    for _ in range(depth):
        thing = (thing,)
    return thing


def what_of(test, error, call, *args, **more):
    """The what of the error of just this class that a call raises."""
    with test.assertRaises(error) as caught:
        call(*args, **more)
    test.assertIs(caught.exception.__class__, error)
    return caught.exception.what


def replaced(things, at, thing):
    """A tuple with another thing at one place."""
    return things[:at] + (thing,) + things[at + 1:]


def ones(*numbers):
    """Cells of one number each, None for what is lost."""
    return tuple(None if number is None else (number,) for number in numbers)


def numbers_from(seed, least, most):
    """Numbers from least to most, the same ones for each seed."""
    x = seed * 104729 + 1
    while True:
        x = (3125 * x + 137) % 998244353
        yield least + x % (most - least + 1)


def table_of(seed, p, n, c, least=1):
    """A table of c rows, the same one for each seed."""
    told = numbers_from(seed, least, p - 1)
    return tuple(tuple(next(told) for _ in range(n)) for _ in range(c))


def subsets(things):
    return [part for size in range(len(things) + 1) for part in combinations(things, size)]


@lru_cache(maxsize=100000)
def striped(shape, row):
    p, wide, n, table = shape[0], shape[1], shape[2], shape[6]
    told = [tuple(sum(weights[x] * row[x][q] for x in range(n)) % p for q in range(wide)) for weights in table]
    return tuple(told) + row


def every_row(shape):
    cells = list(product(range(shape[0]), repeat=shape[1]))
    return list(product(cells, repeat=shape[2]))


def every_pair(shape):
    """All pairs of rows that are unlike in k cells at most."""
    rows = every_row(shape)
    for ahead in rows:
        for behind in rows:
            if sum(1 for a, b in zip(ahead, behind) if a != b) <= shape[3]:
                yield ahead, behind


def every_came(shape, ahead, behind):
    many = len(shape[6])
    changed = [many + x for x in range(shape[2]) if ahead[x] != behind[x]]
    for of_sums in subsets(range(many)):
        for of_cells in subsets(changed):
            if shape[5] == 0 or of_cells == () or len(of_sums) == many:
                yield of_sums + of_cells


def every_story(shape):
    for ahead, behind in every_pair(shape):
        changes = tuple((x, behind[x]) for x in range(shape[2]) if ahead[x] != behind[x])
        for came in every_came(shape, ahead, behind):
            yield ahead, changes, came


def ends_by_left(shape, lost):
    """For each left stripe that some story leaves, the rows that are ends of all stories that leave it."""
    full = {row: striped(shape, row) for row in every_row(shape)}
    found = {}
    for ahead, behind in every_pair(shape):
        first, last = full[ahead], full[behind]
        for came in every_came(shape, ahead, behind):
            left = list(first)
            for shelf in came:
                left[shelf] = last[shelf]
            for shelf in lost:
                left[shelf] = None
            left = tuple(left)
            if left in found:
                found[left] = found[left] & {ahead, behind}
            else:
                found[left] = {ahead, behind}
    return found


def ends_at_nought(shape, lost):
    """For each left stripe whose kept cells are 0, of numbers alone, the pairs of ends of the stories that leave it."""
    many, n = len(shape[6]), shape[2]
    kept = [x for x in range(n) if many + x not in lost]
    full = {row: striped(shape, row) for row in every_row(shape)}
    found = {}
    for ahead, behind in every_pair(shape):
        if all((0,) in (ahead[x], behind[x]) for x in kept):
            for came in every_came(shape, ahead, behind):
                first, last = full[ahead], full[behind]
                left = tuple(None if shelf in lost else last[shelf] if shelf in came else first[shelf]
                             for shelf in range(many + n))
                if all(left[many + x] == (0,) for x in kept):
                    found.setdefault(left, set()).add(frozenset((ahead, behind)))
    return found


def two_apart(pairs):
    """Whether two of these pairs of ends have no end in common."""
    return any(not one & other for one, other in combinations(list(pairs), 2))


def three_apart(pairs):
    """Whether three of these pairs are each two of three rows."""
    beside = {}
    for pair in pairs:
        if len(pair) == 2:
            one, other = pair
            beside.setdefault(one, set()).add(other)
            beside.setdefault(other, set()).add(one)
    return any(beside[one] & beside[other] for one in beside for other in beside[one])


def is_safe(shape, lost):
    return all(found for found in ends_by_left(shape, lost).values())


def does_stand(shape):
    shelves = len(shape[6]) + shape[2]
    return all(is_safe(shape, lost) for lost in subsets(range(shelves)) if len(lost) <= shape[4])


def left_of(shape, story, lost):
    ahead, behind = both_ends(story)
    first, last = striped(shape, ahead), striped(shape, behind)
    return tuple(None if shelf in lost else last[shelf] if shelf in story[2] else first[shelf]
                 for shelf in range(len(first)))


def both_ends(story):
    changed = dict(story[1])
    return story[0], tuple(changed.get(x, cell) for x, cell in enumerate(story[0]))


def is_story_of(shape, story):
    row, changes, came = story
    p, wide, n, k, _, manner, table = shape
    if len(row) != n or any(len(cell) != wide or not all(0 <= number < p for number in cell) for cell in row):
        return False
    cells = [x for x, _ in changes]
    if len(cells) > k or cells != sorted(set(cells)) or any(row[x] == cell for x, cell in changes):
        return False
    if any(len(cell) != wide or not all(0 <= number < p for number in cell) for _, cell in changes):
        return False
    may = list(range(len(table))) + [len(table) + x for x in cells]
    if list(came) != sorted(set(came)) or any(shelf not in may for shelf in came):
        return False
    sums_came = [shelf for shelf in came if shelf < len(table)]
    return manner == 0 or len(sums_came) == len(came) or len(sums_came) == len(table)


def do_clash(shape, lost, stories):
    """Whether these two or three stories leave the same with a loss, and have no end in common."""
    if len(stories) not in (2, 3) or not all(is_story_of(shape, story) for story in stories):
        return False
    if len({left_of(shape, story, lost) for story in stories}) != 1:
        return False
    common = set(both_ends(stories[0]))
    for story in stories:
        common = common & set(both_ends(story))
    return not common


def fits_of(shape, left, full):
    """The rows of whose stripes all kept shelves have what they have; full has the stripe of each row."""
    return [row for row, cells in full.items() if all(cell in (None, other) for cell, other in zip(left, cells))]


def is_blind(shape, lost, full):
    """Whether two unlike rows have stripes that are alike at all kept shelves."""
    kept = [shelf for shelf in range(len(shape[6]) + shape[2]) if shelf not in lost]
    return len({tuple(cells[shelf] for shelf in kept) for cells in full.values()}) < len(full)


def ends_leaving(shape, left):
    """The pairs of ends of all stories that leave this, cell by cell; None if there is no story."""
    cells = list(product(range(shape[0]), repeat=shape[1]))
    many = len(shape[6])
    ways = [[(a, b) for a in cells for b in cells if cell is None or cell in (a, b)] for cell in left[many:]]
    found = []
    for way in product(*ways):
        ahead, behind = tuple(a for a, _ in way), tuple(b for _, b in way)
        if sum(1 for a, b in way if a != b) <= shape[3] and lies_between(shape, left, ahead, behind):
            found.append({ahead, behind})
    return found


def lies_between(shape, left, ahead, behind):
    many = len(shape[6])
    first, last = striped(shape, ahead), striped(shape, behind)
    if any(cell not in (None, a, b) for cell, a, b in zip(left, first, last)):
        return False
    came = any(cell not in (None, a) for cell, a in zip(left[many:], ahead))
    return shape[5] == 0 or not came or all(cell in (None, b) for cell, b in zip(left[:many], last))


def likelier_of(shape, left, rows):
    """Which of one or two rows is told, as [23] says."""
    many = len(shape[6])
    rows = sorted(rows)
    full = {row: striped(shape, row) for row in rows}
    if shape[5] == 1:
        for part in (slice(many, None), slice(0, many)):
            agree = [row for row in rows if all(c in (None, d) for c, d in zip(left[part], full[row][part]))]
            if agree:
                return agree[0]
    return max(rows, key=lambda row: sum(c == d for c, d in zip(left, full[row])))


def come_from(shape, seed, many):
    """Some stories of a shape, the same ones for each seed."""
    told = numbers_from(seed, 0, 10 ** 8)
    p, wide, n, k, _, manner, table = shape
    for _ in range(many):
        row = tuple(tuple(next(told) % p for _ in range(wide)) for _ in range(n))
        cells = sorted({next(told) % n for _ in range(next(told) % (k + 1))})
        changes = [(x, tuple(next(told) % p for _ in range(wide))) for x in cells]
        changes = tuple((x, cell) for x, cell in changes if cell != row[x])
        sums = [j for j in range(len(table)) if next(told) % 2]
        came = [len(table) + x for x, _ in changes if next(told) % 2]
        if manner == 1 and came:
            sums = range(len(table))
        yield row, changes, tuple(sums) + tuple(came)


def put_row(rack, row, cells):
    """Write the stripe of these cells."""
    for shelf, cell in enumerate(striped(rack.shape, cells)):
        rack.put(row, shelf, cell)


def seen(rack):
    """All that a rack tells."""
    shelves = range(len(rack.shape[6]) + rack.shape[2])
    cells = [[rack.cell(row, shelf) for shelf in shelves] for row in range(rack.rows)]
    return rack.states(), cells, [rack.left(row) for row in range(rack.rows)], rack.shape, rack.rows


class Refusing(unittest.TestCase):
    def refused(self, rack, error, call, *args):
        """The what of an error that a call raises; the rack stays as it is."""
        ahead = seen(rack)
        what = what_of(self, error, call, *args)
        self.assertEqual(seen(rack), ahead)
        return what


def plain_bank(rows=16, cells=8, most=3, p=1009, wide=1):
    """A bank for what asks only how great it is; its shape does not stand."""
    return Bank(Rack((p, wide, cells, most, 0, 0, table_of(1, p, cells, 2)), rows))


class Draw:
    """Drawn numbers and things, the same ones for each seed."""

    def __init__(self, seed):
        self.numbers = numbers_from(seed, 0, 10 ** 8)

    def below(self, many):
        return next(self.numbers) % many

    def of(self, things):
        return things[self.below(len(things))]

    def part(self, things):
        return tuple(index for index in range(len(things)) if self.below(2))


def deepened(word, leaf, deep):
    """A number or a test that is so deep, on its left side alone."""
    thing = leaf
    for _ in range(deep - 1):
        thing = (word, thing) if word == "not" else (word, thing, leaf)
    return thing


def nested_ifs(test, deep):
    """The body of a deal in which a body lies so deep, an empty one."""
    body = ()
    for _ in range(deep - 1):
        body = (("if", test, body, ()),)
    return body


def drawn_number(draw, names, deep):
    """An E of these names: RECs, and params that are numbers."""
    recs, nums = names
    way = draw.below(7 if deep > 1 else 4)
    if way == 0 or (way == 1 and not nums):
        return ("num", draw.of((0, 1, 2, 3, 10, 50)))
    if way == 1:
        return ("arg", draw.of(nums))
    if way < 4:
        return ("worth", draw.of(recs))
    return (draw.of(("add", "add", "sub", "mul")), drawn_number(draw, names, deep - 1),
            drawn_number(draw, names, deep - 1 - draw.below(deep - 1)))


def drawn_test(draw, names, deep):
    """A T of these names."""
    if deep == 1 or draw.below(2):
        return (draw.of(("eq", "less")), drawn_number(draw, names, 3), drawn_number(draw, names, 2))
    word = draw.of(("and", "or", "not"))
    parts = [drawn_test(draw, names, deep - 1) for _ in range(1 if word == "not" else 2)]
    return (word,) + tuple(parts)


def drawn_body(draw, names, ahead, deep):
    """A body that lies so deep, with calls of the deals ahead."""
    return tuple(drawn_statement(draw, names, ahead, deep) for _ in range(draw.below(4) + (deep == 1)))


def drawn_statement(draw, names, ahead, deep):
    way = draw.below(8)
    if way == 0:
        # Seldom not so.
        return ("need", ("not", ("eq", drawn_number(draw, names, 2), ("num", 7))), draw.of(("short", "a", "no")))
    if way in (1, 2) and deep < 5:
        return ("if", drawn_test(draw, names, 3), drawn_body(draw, names, ahead, deep + 1),
                drawn_body(draw, names, ahead, deep + 1))
    if way in (3, 4) and ahead:
        name, params, _ = draw.of(ahead)
        args = [draw.of(names[0]) if sort == "rec" else drawn_number(draw, names, 2) for _, sort in params]
        return ("call", name, tuple(args))
    return ("set", draw.of(names[0]), drawn_number(draw, names, 3))


def drawn_deal(draw, schema, ahead, name):
    sorts = [draw.of(("rec", "num")) for _ in range(draw.below(5))]
    params = tuple(("p" + str(at), sort) for at, sort in enumerate(sorts))
    recs = [("rec", record) for row in schema for record, _ in row] + [("arg", p) for p,
                                                                       sort in params if sort == "rec"]
    names = (recs, [param for param, sort in params if sort == "num"])
    return (name, params, drawn_body(draw, names, ahead, 1))


def drawn_book(seed, schema, deals, keeps):
    """A book of so many deals and keeps; a deal of it may be too long."""
    draw = Draw(seed)
    found = ()
    for at in range(deals):
        found += (drawn_deal(draw, schema, found, "d" + str(at)),)
    names = ([("rec", record) for row in schema for record, _ in row], [])
    return schema, found, tuple(("not", drawn_test(draw, names, 2)) for _ in range(keeps))


def drawn_args(draw, schema, params, top):
    records = [record for row in schema for record, _ in row]
    return tuple(draw.of(records) if sort == "rec" else draw.of((0, 1, 2, 5, 20, top)) for _, sort in params)


class PlainCall:
    """A call of a deal, done as its bodies say, one statement behind another; args are looked at where they stand."""

    def __init__(self, book, worths, deal, args):
        self.schema, deals, self.keeps = book
        self.deals = {name: (params, body) for name, params, body in deals}
        self.records = [record for row in self.schema for record in row]
        self.indexes = {name: index for index, (name, _) in enumerate(self.records)}
        self.worths = list(worths)
        self.sets = []
        params, body = self.deals[deal]
        self.body(body,
                  {name: (("rec" if sort == "rec" else "num", arg), {}) for (name, sort), arg in zip(params, args)})
        for index, keep in enumerate(self.keeps):
            if not self.holds(keep, {}):
                raise Broken(index)

    def body(self, body, given):
        for statement in body:
            if statement[0] == "need":
                if not self.holds(statement[1], given):
                    raise Needed(statement[2])
            elif statement[0] == "set":
                self.set(self.record(statement[1], given), self.number(statement[2], given))
            elif statement[0] == "if":
                self.body(statement[2 if self.holds(statement[1], given) else 3], given)
            else:
                params, body_called = self.deals[statement[1]]
                self.body(body_called, {name: (arg, given) for (name, _), arg in zip(params, statement[2])})

    def set(self, record, number):
        name, size = self.records[record]
        if number < 0 or number >= size:
            raise BadWorth(name)
        self.worths[record] = number
        self.sets.append((record, number))

    def record(self, rec, given):
        while rec[0] == "arg":
            rec, given = given[rec[1]]
        return self.indexes[rec[1]]

    def number(self, thing, given):
        if thing[0] == "num":
            return thing[1]
        if thing[0] == "arg":
            return self.number(*given[thing[1]])
        if thing[0] == "worth":
            return self.worths[self.record(thing[1], given)]
        one, other = self.number(thing[1], given), self.number(thing[2], given)
        return {"add": one + other, "sub": one - other, "mul": one * other}[thing[0]]

    def holds(self, thing, given):
        if thing[0] in ("eq", "less"):
            one, other = self.number(thing[1], given), self.number(thing[2], given)
            return one == other if thing[0] == "eq" else one < other
        parts = [self.holds(part, given) for part in thing[1:]]
        return {"not": not parts[0], "and": all(parts), "or": any(parts)}[thing[0]]
