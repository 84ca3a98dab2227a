"""Calls of deals, held against a plain reading of their bodies ([41], [42], [46])."""

import unittest

from helper import ODD, Draw, PlainCall, drawn_args, drawn_book, plain_bank, replaced, what_of
from twicemany.calls import call, way
from twicemany.checker import made_book
from twicemany.dealcodes import code, most
from twicemany.errors import (BadArgs, BadBook, BadDeal, BadKeep, BadSchema, BadWorth, BadWorths, Broken, Needed,
                              NoDeal, Refused,
                              TooLong)

SCHEMA = ((("ann", 100), ("bob", 100)), (("shop", 100),))
GREAT = ((("x", 1009), ("y", 500)), (("z", 1000), ("w", 20)), (("v", 60),))
A, B, N = ("arg", "a"), ("arg", "b"), ("arg", "n")
ANN, BOB, SHOP = ("rec", "ann"), ("rec", "bob"), ("rec", "shop")
PAY = ("pay", (("a", "rec"), ("b", "rec"), ("n", "num")), (
    ("need", ("not", ("less", ("worth", A), N)), "short"),
    ("set", A, ("sub", ("worth", A), N)),
    ("set", B, ("add", ("worth", B), N))))
BOTH = (call, way)


def num(number):
    return ("num", number)


def worth(rec):
    return ("worth", rec)


class Calling(unittest.TestCase):
    def setUp(self):
        self.bank = plain_bank(cells=5, most=2, p=1009)

    def book(self, *deals, keeps=()):
        return SCHEMA, deals, keeps

    def done(self, body, worths, args=(), params=(), keeps=()):
        book = self.book(PAY, ("t", params, body), keeps=keeps)
        return call(self.bank, book, worths, "t", args), way(self.bank, book, worths, "t", args)

    def refused(self, error, what, body, worths, args=(), params=(), keeps=()):
        book = self.book(PAY, ("t", params, body), keeps=keeps)
        for asked in BOTH:
            self.assertEqual(what_of(self, error, asked, self.bank, book, worths, "t", args), what)


class Calls(Calling):
    def test_the_examples(self):
        book = self.book(PAY)
        self.assertEqual(call(self.bank, book, (5, 0, 0), "pay", ("ann", "bob", 3)), (2, 3, 0))
        self.assertEqual(way(self.bank, book, (5, 0, 0), "pay", ("ann", "bob", 3)), (1, 2))
        self.assertEqual(call(self.bank, book, (5, 0, 0), "pay", ("ann", "ann", 3)), (5, 0, 0))
        self.assertEqual(way(self.bank, book, (5, 0, 0), "pay", ("ann", "ann", 3)), (1, 2))
        kept = self.book(PAY, keeps=(("less", worth(BOB), num(3)),))
        for asked in BOTH:
            self.assertEqual(what_of(self, Needed, asked, self.bank, book, (5, 0, 0), "pay", ("ann", "bob", 9)),
                             "short")
            self.assertEqual(what_of(self, Broken, asked, self.bank, kept, (5, 0, 0), "pay", ("ann", "bob", 3)), 0)

    def test_the_example_of_twice(self):
        s = ("add", worth(A), N)
        twice = ("twice", (("a", "rec"), ("n", "num")), (("set", A, s), ("set", A, s)))
        book = self.book(twice, ("both", (), (("call", "twice", (BOB, worth(BOB))),)))
        self.assertEqual(call(self.bank, book, (0, 1, 0), "both", ()), (0, 4, 0))
        self.assertEqual(way(self.bank, book, (0, 1, 0), "both", ()), (0, 1))
        self.assertEqual(call(self.bank, book, (0, 1, 0), "twice", ("bob", 1)), (0, 3, 0))

    def test_nothing_is_set(self):
        self.assertEqual(self.done((), (5, 6, 7)), ((5, 6, 7), ()))
        self.assertEqual(self.done((("if", ("eq", num(1), num(2)), (("set", ANN, num(1)),), ()),), (5, 6, 7)),
                         ((5, 6, 7), ()))

    def test_branches_and_jumps(self):
        body = (("if", ("less", worth(ANN), num(5)), (("set", BOB, num(1)),),
                 (("set", BOB, num(2)), ("set", ANN, num(9)))),
                ("set", SHOP, worth(BOB)))
        self.assertEqual(self.done(body, (4, 0, 0)), ((4, 1, 1), (1, 5)))
        self.assertEqual(self.done(body, (5, 0, 0)), ((9, 2, 2), (3, 4, 5)))

    def test_a_record_has_the_number_that_it_has_then(self):
        body = (("set", ANN, ("add", worth(ANN), num(1))), ("set", BOB, worth(ANN)),
                ("set", ANN, ("mul", worth(BOB), worth(ANN))))
        self.assertEqual(self.done(body, (3, 50, 0)), ((16, 4, 0), (0, 1, 2)))
        # Two args may be one record.
        params = (("a", "rec"), ("b", "rec"))
        body = (("set", A, num(1)), ("set", B, ("add", worth(A), worth(B))))
        self.assertEqual(self.done(body, (9, 9, 9), ("shop", "shop"), params), ((9, 9, 2), (0, 1)))

    def test_tests(self):
        low, high = num(1), num(2)
        so, no = ("less", low, high), ("less", high, low)
        for test, told in ((("eq", low, low), True), (("eq", low, high), False), (so, True), (no, False),
                           (("less", low, low), False),
                           (("not", so), False), (("not", no), True), (("and", so, so), True),
                           (("and", so, no), False),
                           (("and", no, so), False), (("or", no, so), True), (("or", so, no), True),
                           (("or", no, no), False),
                           (("not", ("or", no, ("not", so))), True)):
            self.assertEqual(self.done((("if", test, (("set", ANN, num(1)),), ()),), (0, 0, 0))[0], (int(told), 0, 0))
            if told:
                self.assertEqual(self.done((("need", test, "q"),), (0, 0, 0))[0], (0, 0, 0))
            else:
                self.refused(Needed, "q", (("need", test, "q"), ("set", ANN, num(1000))), (0, 0, 0))

    def test_numbers_below_0_and_beyond_all_sizes(self):
        great = ("mul", ("mul", num(9999), num(9999)), ("mul", num(9999), num(9999)))
        less = ("sub", num(0), great)
        body = (("need", ("eq", ("sub", great, great), num(0)), "a"), ("need", ("less", less, num(0)), "b"),
                ("need", ("less", num(9999), great), "c"), ("need", ("eq", ("add", less, great), num(0)), "d"),
                ("set", ANN, ("add", ("sub", worth(ANN), num(50)), num(50))),
                ("set", BOB, ("mul", ("sub", num(2), num(5)), ("sub", num(0), num(4)))))
        self.assertEqual(self.done(body, (1, 0, 0)), ((1, 12, 0), (4, 5)))
        for number in (great, less, ("sub", num(0), num(1)), num(100), ("add", num(99), num(1)), num(9999)):
            self.refused(BadWorth, "bob", (("set", ANN, num(1)), ("set", BOB, number), ("set", ANN, num(100))),
                         (0, 0, 0))
        for number in (0, 99):
            self.assertEqual(self.done((("set", BOB, num(number)),), (7, 7, 7))[0], (7, number, 7))

    def test_the_record_that_gets_a_wrong_number_is_named(self):
        self.refused(BadWorth, "shop", (("set", A, num(100)),), (0, 0, 0), ("shop",), (("a", "rec"),))
        self.refused(BadWorth, "ann", (("call", "pay", (BOB, A, num(2))),), (99, 9, 9), ("ann",), (("a", "rec"),))

    def test_what_is_refused_first(self):
        need = ("need", ("eq", num(1), num(2)), "no")
        over = ("set", ANN, num(100))
        keeps = (("eq", num(1), num(1)), ("eq", worth(ANN), num(0)), ("eq", num(1), num(2)))
        self.refused(Needed, "no", (need, over), (0, 0, 0), keeps=keeps)
        self.refused(BadWorth, "ann", (over, need), (0, 0, 0), keeps=keeps)
        self.refused(Broken, 1, (("set", ANN, num(1)),), (0, 0, 0), keeps=keeps)
        self.refused(Broken, 2, (), (0, 0, 0), keeps=keeps)
        self.refused(Broken, 1, (), (1, 0, 0), keeps=keeps)

    def test_keeps_are_asked_at_the_stop(self):
        keeps = (("eq", ("add", worth(ANN), worth(BOB)), num(10)),)
        body = (("set", ANN, ("sub", worth(ANN), num(1))), ("set", BOB, ("add", worth(BOB), num(1))))
        self.assertEqual(self.done(body, (10, 0, 3), keeps=keeps), ((9, 1, 3), (0, 1)))
        # A keep that did not hold ahead may hold behind.
        self.assertEqual(self.done((("set", BOB, num(4)),), (6, 0, 0), keeps=keeps)[0], (6, 4, 0))
        self.refused(Broken, 0, body[:1], (10, 0, 3), keeps=keeps)


class Args(Calling):
    def test_args_that_are_right(self):
        body = (("set", A, num(7)), ("need", ("eq", N, N), "q"))
        for args, behind in ((("ann", 0), (7, 0, 0)), (("shop", 1008), (0, 0, 7)), (("bob", 999), (0, 7, 0))):
            self.assertEqual(self.done(body, (0, 0, 0), args, (("a", "rec"), ("n", "num")))[0], behind)
        self.assertEqual(self.done((("set", ANN, N),), (0, 0, 0), (99,), (("n", "num"),))[0], (99, 0, 0))
        bank = plain_bank(cells=5, p=257)
        self.assertEqual(call(bank, self.book(PAY), (5, 0, 0), "pay", ("ann", "bob", 0)), (5, 0, 0))
        self.assertEqual(what_of(self, Needed, call, bank, self.book(PAY), (5, 0, 0), "pay", ("ann", "bob", 256)),
                         "short")
        self.assertEqual(what_of(self, BadArgs, call, bank, self.book(PAY), (5, 0, 0), "pay", ("ann", "bob", 257)), 2)

    def test_what_are_no_args(self):
        params = (("a", "rec"), ("n", "num"), ("b", "rec"))
        for args in (None, True, 3, "ann", "abc", (), ("ann", 1), ("ann", 1, "bob", 1), ["ann", 1, "bob"]):
            self.refused(BadArgs, -1, (), (0, 0, 0), args, params)
        self.refused(BadArgs, -1, (), (0, 0, 0), (1,))
        for name in ODD + (1, "a", "ANN", ("rec", "ann")):
            self.refused(BadArgs, 0, (), (0, 0, 0), (name, None, None), params)
            self.refused(BadArgs, 2, (), (0, 0, 0), ("ann", 1, name), params)
        for number in (None, True, False, "", "ann", "1", (), (1,), -1, 1009, 10 ** 900):
            self.refused(BadArgs, 1, (), (0, 0, 0), ("ann", number, None), params)

    def test_wrong_arguments_from_the_left(self):
        used = ("low", (("n", "num"),), (("set", ANN, ("add", N, num(1))),))
        five = ("add", num(1), ("add", num(1), ("add", num(1), ("add", num(1), num(1)))))
        long = ("t", (), (("call", "low", (five,)),))
        for asked in BOTH:
            for book, error, what in ((None, BadBook, -1), (((), (), ()), BadSchema, -1),
                                      (self.book(PAY, PAY), BadDeal, (1, (-1,))),
                                      (self.book(used, long), TooLong, 1),
                                      (self.book(PAY, keeps=(None,)), BadKeep, 0)):
                self.assertEqual(what_of(self, error, asked, self.bank, book, None, None, None), what)
            book = self.book(PAY)
            for worths, what in ((None, -1), ((5, 0), -1), ((5, 0, 100), 2), ((True, 0, 0), 0)):
                self.assertEqual(what_of(self, BadWorths, asked, self.bank, book, worths, "none", None), what)
            for name in ODD + ("none", "a", "ann"):
                self.assertEqual(what_of(self, NoDeal, asked, self.bank, book, (5, 0, 0), name, None), name)
            self.assertEqual(what_of(self, BadArgs, asked, self.bank, book, (0, 0, 0), "pay", ("ann", "bob")), -1)
            self.assertEqual(what_of(self, BadArgs, asked, self.bank, book, (0, 0, 0), "pay", ("ann", "bob", "n")), 2)
            self.assertEqual(what_of(self, Needed, asked, self.bank, book, (0, 0, 0), "pay", ("ann", "bob", 1)),
                             "short")


class Drawn(Calling):
    def test_calls_against_the_plain_reading(self):
        seen = {}
        for seed in range(300):
            book = drawn_book(seed, GREAT, 1 + seed % 5, seed % 4)
            bank = plain_bank(most=2)
            try:
                made_book(bank, book)
            except TooLong:
                continue
            draw = Draw(seed)
            for name, params, _ in book[1]:
                for _ in range(4):
                    worths = tuple(draw.below(min(size, 12)) for row in GREAT for _, size in row)
                    word = self.hold(bank, book, worths, name, drawn_args(draw, GREAT, params, bank.top))
                    seen[word] = seen.get(word, 0) + 1
        self.assertEqual(sorted(seen), ["BadWorth", "Broken", "Needed", "done", "same"])
        self.assertTrue(min(seen.values()) > 50, seen)

    def hold(self, bank, book, worths, name, args):
        """Hold a call against the plain reading of its bodies, and its way against its code."""
        kept = repr((book, worths, args))
        params = [deal[1] for deal in book[1] if deal[0] == name][0]
        plain_args = tuple(args)
        try:
            plain = PlainCall(book, worths, name, plain_args)
        except Refused as error:
            for asked in BOTH:
                self.assertEqual(what_of(self, error.__class__, asked, bank, book, worths, name, args), error.what)
            return error.__class__.__name__
        behind, told = call(bank, book, worths, name, args), way(bank, book, worths, name, args)
        self.assertEqual(behind, tuple(plain.worths))
        rows = code(bank, book, name)
        given = {param: ("rec", arg) for (param, sort), arg in zip(params, args) if sort == "rec"}
        recs = [given.get(rows[row][1][1], rows[row][1]) for row in told]
        self.assertEqual([("rec", plain.records[record][0]) for record, _ in plain.sets], recs)
        self.assertEqual(list(told), sorted(set(told)))
        self.assertTrue(min(4, len({rows[row][1] for row in told})) <= most(bank, book, name))
        self.assertTrue(self.goes(rows, told))
        self.assertEqual((behind, told), (call(bank, book, worths, name, args), way(bank, book, worths, name, args)))
        self.assertEqual(repr((book, worths, args)), kept)
        return "done" if behind != worths else "same"

    def goes(self, rows, told):
        """Whether one way through a code sets just at these rows."""
        lots = {0: {()}}
        for at, row in enumerate(rows[:-1]):
            lot = {done + (at,) for done in lots.get(at, ())} if row[0] == "set" else lots.get(at, set())
            for behind in {"jump": row[-1:], "branch": (at + 1, row[-1])}.get(row[0], (at + 1,)):
                lots.setdefault(behind, set()).update(done for done in lot if done == told[:len(done)])
        return told in lots[len(rows) - 1]

    def test_equal_calls(self):
        book = self.book(PAY)
        for args in (("ann", "bob", 3), ("bob", "shop", 0)):
            told = [call(self.bank, book, (5, 5, 5), "pay", args) for _ in range(3)]
            self.assertEqual(told, told[:1] * 3)
        self.assertEqual(call(self.bank, book, replaced((5, 5, 5), 0, 99), "pay", ("ann", "shop", 90)), (9, 5, 95))


if __name__ == "__main__":
    unittest.main()
