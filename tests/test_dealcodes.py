"""Codes of deals, held against a plain building of them, and how much a deal sets ([43] to [45])."""

import time
import unittest

from helper import ODD, deepened, drawn_book, plain_bank, what_of
from twicemany.checker import made_book
from twicemany.dealcodes import code, kind, most, reach
from twicemany.errors import BadBook, BadDeal, BadKeep, BadSchema, NoDeal, TooLong

SCHEMA = ((("x", 100), ("y", 100)), (("z", 100), ("w", 9)), (("v", 1000),))
NAMES = "xyzwv"
X, Y, Z, W, V = [("rec", name) for name in NAMES]
A, B, N = ("arg", "a"), ("arg", "b"), ("arg", "n")
ONE = ("num", 1)
T = ("eq", ("worth", X), ONE)
U = ("less", ("worth", Y), ("num", 5))
STOP = (("stop",),)
PAY = ("pay", (("a", "rec"), ("b", "rec"), ("n", "num")), (
    ("need", ("not", ("less", ("worth", A), N)), "short"),
    ("set", A, ("sub", ("worth", A), N)),
    ("set", B, ("add", ("worth", B), N))))
ASKED = (code, most, reach, kind)


def given(thing, args):
    """A thing with args in place of params, all at once."""
    if not isinstance(thing, tuple):
        return thing
    if thing[:1] == ("arg",):
        return args[thing[1]] if thing[1] in args else thing
    return tuple(given(part, args) for part in thing)


def shifted(rows, by):
    return [row[:-1] + (row[-1] + by,) if row[0] in ("branch", "jump") else row for row in rows]


def plain_rows(deals, body):
    """The rows of a body, numbered from its first one."""
    rows = []
    for statement in body:
        if statement[0] == "if":
            first, second = plain_rows(deals, statement[2]), plain_rows(deals, statement[3])
            jump = 1 + len(first)
            part = [("branch", statement[1], jump + 1)] + shifted(first, 1)
            part += [("jump", jump + 1 + len(second))] + shifted(second, jump + 1)
        elif statement[0] == "call":
            _, params, inner = deals[statement[1]]
            args = {name: arg for (name, _), arg in zip(params, statement[2])}
            part = [given(row, args) for row in plain_rows(deals, inner)]
        else:
            part = [statement]
        rows += shifted(part, len(rows))
    return rows


def plain_code(book, name):
    deals = {deal[0]: deal for deal in book[1]}
    return tuple(plain_rows(deals, deals[name][2])) + STOP


def depth(number):
    return 1 if number[0] in ("num", "arg", "worth") else 1 + max(depth(part) for part in number[1:])


def depths(thing):
    """How deep each E in a row or a test is."""
    if thing[0] in ("stop", "jump"):
        return []
    if thing[0] == "set":
        return [depth(thing[2])]
    if thing[0] in ("eq", "less"):
        return [depth(thing[1]), depth(thing[2])]
    parts = thing[1:2] if thing[0] in ("need", "branch") else thing[1:]
    return [number for part in parts for number in depths(part)]


def is_too_long(rows):
    return len(rows) > 200 or any(number > 5 for row in rows for number in depths(row))


def ways(rows, at=0):
    """All lots of RECs that a way sets, with how many ways there are."""
    if rows[at][0] == "stop":
        return [frozenset()]
    behind = {"jump": rows[at][-1:], "branch": (at + 1,) + rows[at][-1:]}.get(rows[at][0], (at + 1,))
    found = [lot for row in behind for lot in ways(rows, row)]
    return [lot | {rows[at][1]} for lot in found] if rows[at][0] == "set" else found


def several_ways(rows):
    many = [1] * len(rows)
    for at in range(len(rows) - 2, -1, -1):
        row = rows[at]
        many[at] = many[row[1]] if row[0] == "jump" else many[at + 1] + (many[row[2]] if row[0] == "branch" else 0)
    return many[0]


class Dealing(unittest.TestCase):
    def setUp(self):
        self.bank = plain_bank(most=2)

    def book(self, *deals):
        return SCHEMA, deals, ()

    def body(self, *body, params=()):
        return self.book(("t", params, body))


class Codes(Dealing):
    def test_the_examples(self):
        s = ("add", ("worth", A), N)
        twice = ("twice", (("a", "rec"), ("n", "num")), (("set", A, s), ("set", A, s)))
        both = ("both", (), (("call", "twice", (X, ("worth", X))),))
        d = ("add", ("worth", X), ("worth", X))
        self.assertEqual(code(self.bank, self.book(twice, both), "both"), (("set", X, d), ("set", X, d)) + STOP)
        need = ("need", U, "short")
        self.assertEqual(code(self.bank, self.body(("if", T, (), (need,))), "t"),
                         (("branch", T, 2), ("jump", 3), need) + STOP)
        self.assertEqual(code(self.bank, self.book(PAY), "pay"), PAY[2] + STOP)

    def test_ifs(self):
        s, n = ("set", X, ONE), ("need", U, "q")
        for body, rows in (
            ((), ()), ((s, n), (s, n)), ((("if", T, (), ()),), (("branch", T, 2), ("jump", 2))),
            ((s, ("if", T, (s, n), (n,)), s), (s, ("branch", T, 5), s, n, ("jump", 6), n, s)),
            ((("if", T, (("if", U, (s,), ()),), (n,)), n),
             (("branch", T, 5), ("branch", U, 4), s, ("jump", 4), ("jump", 6), n, n)),
            ((("if", T, (), (("if", U, (), (s,)),)),),
             (("branch", T, 2), ("jump", 5), ("branch", U, 4), ("jump", 5), s)),
        ):
            self.assertEqual(code(self.bank, self.body(*body), "t"), rows + STOP)

    def test_calls(self):
        inner = ("inner", (("a", "rec"), ("n", "num")), (("if", ("less", N, ("worth", A)), (("set", A, N),), ()),))
        # Names of params may be those of the deal that calls; each is put in once.
        outer = ("outer", (("n", "rec"), ("a", "num")), (
            ("need", T, "q"), ("call", "inner", (N, ("add", ("arg", "a"), ("worth", N)))),
            ("call", "inner", (X, ("num", 7)))))
        e = ("add", ("arg", "a"), ("worth", N))
        self.assertEqual(code(self.bank, self.book(inner, outer), "outer"), (
            ("need", T, "q"), ("branch", ("less", e, ("worth", N)), 4), ("set", N, e), ("jump", 4),
            ("branch", ("less", ("num", 7), ("worth", X)), 7), ("set", X, ("num", 7)), ("jump", 7)) + STOP)
        self.assertEqual(code(self.bank, self.book(inner, outer), "inner"),
                         plain_code((SCHEMA, (inner,), ()), "inner"))

    def test_names_that_are_words_of_codes(self):
        schema = ((("stop", 9), ("arg", 9)), (("set", 9), ("call", 9)), (("worth", 9),))
        eq = ("eq", ("worth", ("arg", "branch")), ("worth", ("rec", "arg")))
        inner = ("jump", (("branch", "rec"), ("need1", "num")), (
            ("need", eq, "stop"), ("set", ("arg", "branch"), ("arg", "need1")), ("need", eq, "arg")))
        outer = ("add", (("jump1", "rec"),), (("call", "jump", (("rec", "set"), ("worth", ("arg", "jump1")))),
                                              ("call", "jump", (("arg", "jump1"), ("num", 5)))))
        book = made_book(self.bank, (schema, (inner, outer), ()))
        for name in ("jump", "add"):
            self.assertEqual(code(self.bank, book, name), plain_code(book, name))
        self.assertEqual((most(self.bank, book, "add"), reach(self.bank, book, "add")), (2, None))

    def test_a_code_of_200_rows(self):
        deals = (("a", (), (("set", X, ONE),) * 20), ("b", (), (("call", "a", ()),) * 9 + (("set", Y, ONE),) * 19))
        told = code(self.bank, self.book(*deals), "b")
        self.assertEqual(told, (("set", X, ONE),) * 180 + (("set", Y, ONE),) * 19 + STOP)
        self.assertEqual(len(told), 200)

    def test_drawn_books(self):
        long, right = 0, 0
        for seed in range(400):
            book = drawn_book(seed, SCHEMA, 1 + seed % 7, seed % 3)
            codes = [plain_code(book, name) for name, _, _ in book[1]]
            wrong = [index for index, rows in enumerate(codes) if is_too_long(rows)]
            if wrong:
                self.assertEqual(what_of(self, TooLong, made_book, self.bank, book), wrong[0])
                long += 1
                continue
            right += 1
            for (name, _, _), rows in zip(book[1], codes):
                self.assertEqual(code(self.bank, book, name), rows)
        self.assertTrue(long > 20 and right > 200, (long, right))


class Setting(Dealing):
    def told(self, book, name):
        return most(self.bank, book, name), reach(self.bank, book, name), kind(self.bank, book, name)

    def test_the_examples(self):
        self.assertEqual(self.told(self.book(PAY), "pay"), (2, None, "by call"))
        book = self.body(("if", T, (("set", X, ONE),), (("set", Y, ONE),)))
        self.assertEqual(self.told(book, "t"), (1, (1,), "whole"))

    def test_what_is_set(self):
        sets = [("set", rec, ONE) for rec in (X, Y, Z, W, V)]
        x, y, z, w, v = sets
        need = ("need", T, "q")
        for body, many, rows, sort in (
            ((), 0, (), "whole"), ((need,), 0, (), "whole"), ((x,), 1, (1,), "whole"), ((x, x, x), 1, (1,), "whole"),
            ((x, y), 2, (1,), "whole"), ((y, x, y), 2, (1,), "whole"), ((x, z), 2, (1, 2), "by call"),
            ((v,), 1, (3,), "whole"), ((x, y, z), 3, (1, 2), "by call"), ((x, y, z, w), 4, (1, 2), "by call"),
            (tuple(sets), 4, (1, 2, 3), "by call"), ((("if", T, (x,), (z,)),), 1, (1, 2), "by call"),
            ((("if", T, (x, y), (x,)), ("if", T, (z,), ())), 3, (1, 2), "by call"),
            ((("if", T, (x,), (y,)), ("if", T, (x,), (y,))), 2, (1,), "whole"),
            ((("if", T, (x, y, z, w, v), (x,)),), 4, (1, 2, 3), "by call"),
            ((("if", T, (w, ("if", U, (z,), ())), ()), z), 2, (2,), "whole"),
        ):
            self.assertEqual(self.told(self.body(*body), "t"), (many, rows, sort), body)

    def test_params_are_recs_of_their_own(self):
        params = (("a", "rec"), ("b", "rec"))
        book = self.body(("set", A, ONE), ("set", B, ONE), ("set", X, ONE), params=params)
        self.assertEqual(self.told(book, "t"), (3, None, "by call"))
        # A param that is only read is none that is set.
        book = self.body(("need", ("eq", ("worth", A), ONE), "q"), ("set", X, ("worth", B)), params=params)
        self.assertEqual(self.told(book, "t"), (1, (1,), "whole"))
        calling = ("u", (("c", "rec"),),
                   (("call", "pay", (X, Y, ONE)), ("call", "pay", (X, X, ("worth", ("arg", "c"))))))
        self.assertEqual(self.told(self.book(PAY, calling), "u"), (2, (1,), "whole"))
        passing = ("u", (("c", "rec"),), (("call", "pay", (("arg", "c"), ("arg", "c"), ONE)),))
        self.assertEqual(self.told(self.book(PAY, passing), "u"), (1, None, "by call"))

    def test_the_most_of_the_bank(self):
        body = (("set", X, ONE), ("set", Y, ONE), ("set", ("rec", "q"), ONE))
        for many in (2, 3):
            bank = plain_bank(most=many)
            book = (SCHEMA[:1] + ((("q", 5),),), (("t", (), body),), ())
            self.assertEqual((most(bank, book, "t"), kind(bank, book, "t")), (3, "by call"))
            book = (((("x", 100), ("y", 100), ("q", 5)),), (("t", (), body),), ())
            self.assertEqual((most(bank, book, "t"), kind(bank, book, "t")), (3, "whole" if many == 3 else "by call"))

    def test_drawn_deals_against_all_ways(self):
        seen = set()
        for seed in range(500):
            book = drawn_book(seed, SCHEMA, 1 + seed % 4, 0)
            for name, _, _ in book[1]:
                rows = plain_code(book, name)
                if any(is_too_long(plain_code(book, other)) for other, _, _ in book[1]) or several_ways(rows) > 3000:
                    continue
                many = min(4, max(len(lot) for lot in ways(rows)))
                recs = {row[1] for row in rows if row[0] == "set"}
                homes = {"x": 1, "y": 1, "z": 2, "w": 2, "v": 3}
                told = None if any(word == "arg" for word,
                                   _ in recs) else tuple(sorted({homes[rec] for _, rec in recs}))
                sort = "whole" if many <= 2 and told is not None and len(told) < 2 else "by call"
                self.assertEqual(self.told(book, name), (many, told, sort))
                seen.add((many, sort, told is None))
        self.assertEqual(len(seen), 11, seen)


class Quickly(Dealing):
    def timed(self, call, *args):
        begun = time.perf_counter()
        told = call(*args)
        self.assertTrue(time.perf_counter() - begun < 2, call)
        return told

    def asked(self, book, name):
        return [self.timed(call, self.bank, book, name) for call in ASKED]

    def test_more_ways_than_could_be_gone(self):
        ifs = tuple(("if", T, (("set", rec, ONE),), ()) for rec in (X, Y, Z) * 10)
        book = self.book(("a", (), ifs), ("b", (), (("call", "a", ()), ("call", "a", ()))))
        self.assertEqual(self.asked(book, "b")[1:], [3, (1, 2), "by call"])
        empty = (("if", T, (), ()),) * 30
        book = self.book(("a", (), empty), ("b", (), (("call", "a", ()),) * 3 + empty[:9]))
        self.assertEqual(self.asked(book, "b")[1:], [0, (), "whole"])

    def test_many_choices_of_records(self):
        schema = tuple(tuple(("r%dx%d" % (row, at), 9) for at in range(7)) for row in range(15))
        names = [name for row in schema for name, _ in row]
        deals, tops = [], []
        for letter, part in (("a", names[:22]), ("b", names[22:44]), ("c", names[44:66])):
            body = ()
            for at, name in enumerate(part):
                body = (("if", ("eq", ONE, ONE), (("set", ("rec", name), ONE),), body),)
                if at % 4 == 3 or at == len(part) - 1:
                    deals.append((letter + str(at), (), body))
                    body = (("call", letter + str(at), ()),)
            tops += body
        book = (schema, tuple(deals) + (("t", (), tuple(tops)), ("u", (), (("set", ("rec", names[-1]), ONE),))), ())
        told = self.asked(book, "t")
        self.assertEqual((len(told[0]), told[1:]), (199, [3, tuple(range(1, 11)), "by call"]))

    def test_calls_without_rows(self):
        deals = [("d0", (), ())]
        for at in range(1, 30):
            deals.append(("d" + str(at), (), (("call", "d" + str(at - 1), ()),) * 30))
        self.assertEqual(self.asked(self.book(*deals), "d29"), [STOP, 0, (), "whole"])

    def test_long_tests_handed_on(self):
        leaf = N
        for _ in range(4):
            leaf = ("add", leaf, leaf)
        test = ("eq", N, N)
        for _ in range(4):
            test = ("and", test, test)
        params = (("n", "num"),)
        deals = [("d0", params, (("need", test, "q"),) * 9), ("d1", params, (("call", "d0", (leaf,)),) * 22)]
        for at in range(2, 30):
            deals.append(("d" + str(at), params, (("call", "d" + str(at - 1), (N,)),)))
        told = self.asked(self.book(*deals), "d29")
        self.assertEqual((len(told[0]), told[1:]), (199, [0, (), "whole"]))


class Refusing(Dealing):
    def test_deals_that_are_not_there(self):
        for call in ASKED:
            for name in ODD + ("pa", "pay ", "x", "a"):
                self.assertEqual(what_of(self, NoDeal, call, self.bank, self.book(PAY), name), name)
            self.assertEqual(what_of(self, NoDeal, call, self.bank, self.book(), "pay"), "pay")

    def test_the_book_comes_first(self):
        five = deepened("add", ONE, 5)
        used = ("low", (("n", "num"),), (("set", X, ("add", N, ONE)),))
        for call in ASKED:
            for book, error, what in ((None, BadBook, -1), (((), (), ()), BadSchema, -1),
                                      (self.book(PAY, PAY), BadDeal, (1, (-1,))),
                                      (self.book(used, ("t", (), (("call", "low", (five,)),))), TooLong, 1),
                                      ((SCHEMA, (PAY,), (None,)), BadKeep, 0)):
                self.assertEqual(what_of(self, error, call, self.bank, book, "none"), what)
                self.assertEqual(what_of(self, error, call, self.bank, book, "pay"), what)


if __name__ == "__main__":
    unittest.main()
