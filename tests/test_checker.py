"""Books that are right, and which error tells of those that are not ([41] to [44])."""

import unittest

from helper import ODD, deepened, nested, nested_ifs, plain_bank, replaced, what_of
from twicemany.checker import made_book
from twicemany.errors import BadBook, BadDeal, BadKeep, BadSchema, Refused, TooLong

SCHEMA = ((("x", 100), ("y", 50)), (("z", 1010),))
SMALL = SCHEMA[:1] + ((("z", 1009),),)
X, Y = ("rec", "x"), ("rec", "y")
ONE = ("num", 1)
T = ("eq", ("worth", X), ONE)
NEED = ("need", T, "short")
SET = ("set", X, ONE)
GIVE = ("give", (("a", "rec"), ("n", "num")), (("set", ("arg", "a"), ("arg", "n")),))
BAD = (None, True, False, "", "No", "x y", -1, 10 ** 900)
DEEP = nested(40)


def deal(*body, name="t", params=()):
    return (name, params, body)


class Checking(unittest.TestCase):
    def setUp(self):
        self.bank = plain_bank()

    def right(self, *deals, keeps=(), bank=None):
        book = (SMALL, deals, keeps)
        self.assertIs(made_book(self.bank if bank is None else bank, book), book)

    def bad(self, what, *deals, keeps=(), bank=None):
        told = what_of(self, BadDeal, made_book, self.bank if bank is None else bank, (SMALL, deals, keeps))
        self.assertEqual(told, what)

    def place(self, place, *body, params=(("a", "rec"), ("n", "num"))):
        """The one deal of a book has its first bad statement there; None if it has none."""
        if place is None:
            self.right(deal(*body, params=params))
        else:
            self.bad((0, place), deal(*body, params=params))


class Books(Checking):
    def test_books_are_returned(self):
        self.right()
        self.right(deal(), keeps=(T,))
        self.right(GIVE, deal(NEED, SET, ("call", "give", (X, ONE))), keeps=(T, ("not", T)))

    def test_what_is_no_triple_of_tuples(self):
        for thing in ODD + ((SMALL, ()), (SMALL, (), (), ()), [SMALL, (), ()], (SMALL, [], ()), (SMALL, (), []),
                            "abc"):
            self.assertEqual(what_of(self, BadBook, made_book, self.bank, thing), -1)
        for part in (None, True, "", "ab", 0, 10 ** 900):
            self.assertEqual(what_of(self, BadBook, made_book, self.bank, (SMALL, part, ())), -1)
            self.assertEqual(what_of(self, BadBook, made_book, self.bank, (SMALL, (), part)), -1)

    def test_how_many_deals_and_keeps(self):
        deals = tuple(deal(name="d" + str(at)) for at in range(31))
        for many in (0, 1, 30):
            self.right(*deals[:many])
        for many in (0, 1, 8):
            self.right(keeps=(T,) * many)
        self.assertEqual(what_of(self, BadBook, made_book, self.bank, (SMALL, deals, ())), -1)
        self.assertEqual(what_of(self, BadBook, made_book, self.bank, (SMALL, (), (T,) * 9)), -1)

    def test_which_error_comes_first(self):
        long = deal(*(SET,) * 30, name="long")
        longer = deal(*(("call", "long", ()),) * 7, name="longer")
        two = (long, longer)
        self.assertEqual(what_of(self, BadBook, made_book, self.bank, (None, (None,), (None,) * 9)), -1)
        self.assertEqual(what_of(self, BadSchema, made_book, self.bank, (None, (None,), (None,))), -1)
        self.assertEqual(what_of(self, BadSchema, made_book, self.bank, (SCHEMA, (None,), (None,))), 1)
        self.assertEqual(what_of(self, BadSchema, made_book, plain_bank(most=1), (SMALL, (None,), (None,))), -1)
        self.assertEqual(what_of(self, BadDeal, made_book, self.bank, (SMALL, two + (None,), (None,))), (2, (-1,)))
        self.assertEqual(what_of(self, TooLong, made_book, self.bank, (SMALL, two, (None,))), 1)
        self.assertEqual(what_of(self, BadKeep, made_book, self.bank, (SMALL, two[:1], (T, None, None))), 1)

    def test_a_book_is_not_changed(self):
        book = (SMALL, (GIVE, deal(("call", "give", (X, ONE)))), (T,))
        kept = (SMALL, (GIVE, deal(("call", "give", (X, ONE)))), (T,))
        made_book(self.bank, book)
        self.assertEqual(book, kept)


class Deals(Checking):
    def test_what_is_no_deal(self):
        for thing in ODD + (DEEP, ("t", ()), ("t", (), (), ()), ["t", (), ()]):
            self.bad((0, (-1,)), thing)
            self.bad((1, (-1,)), GIVE, thing)

    def test_names_of_deals(self):
        self.right(deal(name="a"), deal(name="abcdefghijkl"), deal(name="b9"))
        for name in BAD + (("a",), "x", "z", "if", "abcdefghijklm", "9a"):
            self.bad((0, (-1,)), deal(name=name))
        self.bad((1, (-1,)), deal(name="t"), deal(name="t"))
        self.bad((2, (-1,)), deal(name="t"), deal(name="u"), deal(name="t"))

    def test_names_of_params(self):
        self.right(GIVE, deal(name="b", params=(("a", "num"), ("n", "rec"))))
        # A later deal may have the name of a param.
        self.right(GIVE, deal(name="a"), deal(name="n"))
        for name in BAD + (("b",), "x", "z", "t", "give", "num", "abcdefghijklm", "q"):
            self.bad((1, (-1,)), GIVE, deal(params=(("q", "num"), (name, "rec"))))
        self.bad((1, (-1,)), deal(name="q"), deal(params=(("q", "num"),)))

    def test_forms_of_params(self):
        for params in (None, True, "ab", 0, ["a"], (("a",),), (("a", "rec", 1),), ("ab",), (["a", "rec"],), ((),)):
            self.bad((0, (-1,)), deal(params=params))
        for sort in BAD + ("re", "record", "worth", ("rec",)):
            self.bad((0, (-1,)), deal(params=(("a", sort),)))

    def test_how_many_params(self):
        params = tuple((name, "rec") for name in "abcdefgh")
        for cells, most in ((3, 1), (4, 2), (5, 3), (6, 4), (7, 4), (8, 4)):
            bank = plain_bank(cells=cells, most=2)
            for many in range(most + 1):
                self.right(deal(params=params[:many]), bank=bank)
            self.bad((0, (-1,)), deal(params=params[:most + 1]), bank=bank)
            self.bad((0, (-1,)), deal(params=params[:most + 1] + (None,)), bank=bank)

    def test_how_many_statements(self):
        for many in (0, 1, 30):
            self.place(None, *(SET,) * many)
        self.bad((0, (-1,)), deal(*(SET,) * 31))
        self.bad((0, (-1,)), deal(*(None,) * 31))
        for body in (None, True, "ab", 0, [SET], 10 ** 900):
            self.bad((0, (-1,)), ("t", (), body))

    def test_the_first_of_the_deals(self):
        self.bad((1, (0,)), GIVE, deal(None), None)
        self.bad((0, (2,)), deal(SET, SET, None), deal(name="x"))


class Statements(Checking):
    def test_forms(self):
        for thing in ODD + (DEEP, [SET], ("set",), ("set", X), SET + (ONE,), NEED + (ONE,), NEED[:2], ("if", T, ()),
                            ("if", T, (), (), ()), ("call", "give"), ("call", "give", (), ()), ("Set", X, ONE),
                            ("stop",), ("jump", 0), ("branch", T, 1), (None, X, ONE), ((), X, ONE), (0, T, (), ())):
            self.place((0,), thing)
            self.place((2,), SET, NEED, thing, None)

    def test_needs(self):
        self.place(None, ("need", T, "x"), ("need", T, "a"), ("need", T, "abcdefghijkl"))
        for word in BAD + ("else", "abcdefghijklm", ("a",)):
            self.place((1,), SET, ("need", T, word))
        for test in BAD + (ONE, X, (), "T"):
            self.place((1,), SET, ("need", test, "short"))

    def test_sets(self):
        self.place(None, SET, ("set", ("arg", "a"), ("arg", "n")), ("set", ("rec", "z"), ("worth", ("arg", "a"))))
        for rec in BAD + (DEEP, (), ("rec",), ("rec", "q"), ("rec", "a"), ("arg", "n"), ("arg", "x"), ("arg", "q"),
                          ONE,
                          ("rec", "x", "y"), ("rec", ("x",)), ("worth", X), ["rec", "x"], ("arg", None), (None, "x")):
            self.place((0,), ("set", rec, ONE))
            self.place((0,), ("set", X, ("worth", rec)))
        self.place((0,), ("set", ("arg", "a"), ONE), params=())

    def test_numbers(self):
        for number in (("num", 0), ("num", 9999), ("add", ONE, ONE), ("sub", ("worth", X), ("arg", "n")),
                       ("mul", ONE, ONE)):
            self.place(None, ("set", X, number))
            self.place(None, ("need", ("less", ONE, number), "a"))
        bad = BAD + (DEEP, (), ("num",), ("num", 1, 1), ("num", -1), ("num", 10000), ("num", 10 ** 900),
                     ("num", True), ("num", None),
                     ("num", "1"), ("arg", "a"), ("arg", "x"), ("arg", "q"), ("arg", None), ("arg", ("n",)), X, T, 1,
                     ("add", ONE), ("add", ONE, ONE, ONE), ("div", ONE, ONE), ("add", ONE, None), ("add", None, ONE),
                     ("mul", ONE, ("num", 10000)), ("worth", "x"), ("worth",), ("worth", X, X), (None, ONE, ONE),
                     ["num", 1])
        for number in bad:
            self.place((1,), SET, ("set", X, number))
            self.place((1,), SET, ("need", ("less", ONE, number), "a"))
            self.place((1,), SET, ("need", ("eq", number, ONE), "a"))

    def test_tests(self):
        for test in (T, ("less", ONE, ONE), ("not", T), ("and", T, T), ("or", ("not", T), T)):
            self.place(None, ("need", test, "a"), ("if", test, (), ()))
        for test in BAD + (DEEP, (), ("eq",), ("eq", ONE), T + (ONE,), ("not",), ("not", T, T), ("not", ONE),
                           ("and", T), ("or", T, T, T),
                           ("xor", T, T), ("and", T, ONE), ("and", None, T), ("eq", T, T), ("less", T, ONE),
                           (None, T), ((), ONE, ONE)):
            self.place((0,), ("need", test, "a"))
            self.place((0,), ("if", test, (), ()))

    def test_how_deep(self):
        for word in ("add", "sub", "mul"):
            five = deepened(word, ("arg", "n"), 5)
            for number, place in ((five, None), ((word, five, ONE), (0,)), ((word, ONE, five), (0,))):
                self.place(place, ("set", X, number))
                self.place(place, ("need", ("eq", ONE, number), "a"))
                self.place(place, ("need", deepened("and", ("less", number, ONE), 5), "a"))
        for word in ("and", "or", "not"):
            five = deepened(word, T, 5)
            self.place(None, ("need", five, "a"))
            self.place(None, ("if", five, (), ()))
            self.place((0,), ("need", ("not", five), "a"))
            self.place((0,), ("if", ("or", T, five), (), ()))
        self.place((0,), ("set", X, deepened("add", ONE, 45)))
        self.place((0,), ("need", deepened("not", T, 45), "a"))

    def test_calls(self):
        call = ("call", "give", (("arg", "a"), ("arg", "n")))
        self.right(GIVE,
                   deal(call, ("call", "give", (X, deepened("add", ONE, 5))), params=(("a", "rec"), ("n", "num"))))
        for args in BAD + ((), (X,), (X, ONE, ONE), (ONE, X), (X, X), (ONE, ONE), (("rec", "q"), ONE), ("x", 1),
                           [X, ONE],
                           (("arg", "n"), ONE), (X, ("arg", "a")), (X, ("num", 10000)), (X, deepened("add", ONE, 6))):
            self.bad((1, (0,)), GIVE, deal(("call", "give", args), params=(("a", "rec"), ("n", "num"))))
        for name in BAD + ("t", "later", "x", "q", ("give",)):
            self.bad((1, (1,)), GIVE, deal(SET, ("call", name, ())), deal(name="later"))
        self.bad((0, (0,)), deal(("call", "later", ())), deal(name="later"))
        self.right(deal(name="ahead"), deal(("call", "ahead", ())))
        self.bad((1, (0,)), deal(name="ahead"), deal(("call", "ahead", (ONE,))))


class Places(Checking):
    def test_the_example(self):
        ten = ("set", X, ("num", 10000))
        self.place((1, 1, 1), NEED, ("if", T, (), (("set", X, ONE), ten)))

    def test_in_the_order_of_the_text(self):
        self.place((0,), ("if", None, (None,), (None,)), None)
        self.place((0, 0, 0), ("if", T, (None,), (None,)), None)
        self.place((0, 1, 2), ("if", T, (SET, SET), (SET, SET, None)), None)
        self.place((1,), ("if", T, (SET,), (SET,)), None)
        self.place((0,), ("if", T, (None,), None))
        self.place((1, 0, 1, 1, 0), SET, ("if", T, (SET, ("if", T, (), (None, None)), None), (None,)))

    def test_bodies_of_an_if(self):
        for body in BAD + ((SET,) * 31, (None,) * 31, [SET], "ab"):
            self.place((0,), ("if", T, body, ()))
            self.place((0,), ("if", T, (), body))
            self.place((1, 1, 0), SET, ("if", T, (), (("if", T, body, (None,)),)))
        self.place(None, ("if", T, (SET,) * 30, (SET,) * 30))

    def test_how_deep_bodies_lie(self):
        self.place(None, *nested_ifs(T, 5))
        for first, second in (((), ()), ((SET,), ()), ((None,), ())):
            place = (0, 0) * 4 + (0,)
            self.place(place, *self.inner(first, second))
        self.place((0, 1, 0, 1, 0, 1, 0, 1, 0), *self.other_side())

    def inner(self, first, second):
        """Five ifs within one another, whose last bodies lie 6 deep."""
        body = (("if", T, first, second),)
        for _ in range(4):
            body = (("if", T, body, (None,)),)
        return body

    def other_side(self):
        body = (("if", T, (), ()), None)
        for _ in range(4):
            body = (("if", T, (SET,), body), None)
        return body

    def test_each_part_spoilt(self):
        """Whatever part of a deal is put in the place of another thing, its statement, or the deal, is told."""
        body = (NEED,
                ("if", ("and", T, ("not", T)), (SET, ("call", "give", (("arg", "a"), ("add", ONE, ("arg", "n"))))),
                       (("if", T, (), (("set", ("arg", "a"), ("worth", Y)),)),)), SET)
        book = (SMALL, (GIVE, ("t", (("a", "rec"), ("n", "num")), body)), (T,))
        made_book(self.bank, book)
        seen = set()
        for path in self.paths(book[1][1], ()):
            for bad in BAD:
                spoilt = (SMALL, (GIVE, self.put(book[1][1], path, bad)), book[2])
                self.assertEqual(what_of(self, BadDeal, made_book, self.bank, spoilt), (1, self.place_of(body, path)))
                seen.add(self.place_of(body, path))
        self.assertEqual(len(seen), 8)

    def paths(self, thing, path):
        """The places of all parts of a deal, but of the parts that name or count nothing in it."""
        found = [path] if path else []
        if isinstance(thing, tuple):
            for at, part in enumerate(thing):
                found += self.paths(part, path + (at,))
        return found

    def put(self, thing, path, part):
        if not path:
            return part
        return replaced(thing, path[0], self.put(thing[path[0]], path[1:], part))

    def place_of(self, body, path):
        """The place of the statement in which a path ends; the deal's own name, params and body have none."""
        if path[0] != 2 or len(path) == 1:
            return (-1,)
        place, path = (path[1],), path[2:]
        while body[place[-1]][0] == "if" and path and path[0] in (2, 3) and len(path) > 1:
            body = body[place[-1]][path[0]]
            place += (path[0] - 2, path[1])
            path = path[2:]
        return place


class Keeps(Checking):
    def test_keeps(self):
        self.right(keeps=(T, ("less", ("worth", ("rec", "z")), ("num", 9999)), deepened("or", T, 5)))
        five = deepened("mul", ("worth", X), 5)
        self.right(keeps=(("eq", five, five),))

    def test_what_is_no_keep(self):
        wrong = ODD + (ONE, X, NEED, ("eq", ("arg", "n"), ONE), ("eq", ("worth", ("arg", "a")), ONE),
                       ("less", ("worth", ("rec", "q")), ONE),
                       deepened("not", T, 6), ("eq", deepened("add", ONE, 6), ONE), ("eq", ONE, ("num", 10000)),
                       ("not", None))
        for keep in wrong:
            self.assertEqual(what_of(self, BadKeep, made_book, self.bank, (SMALL, (GIVE,), (keep,))), 0)
            self.assertEqual(what_of(self, BadKeep, made_book, self.bank, (SMALL, (GIVE,), (T, T, keep, None))), 2)


class Lengths(Checking):
    def long(self, what, *deals):
        self.assertEqual(what_of(self, TooLong, made_book, self.bank, (SMALL, deals, ())), what)

    def test_200_rows_and_201(self):
        forty = deal(*(SET,) * 20, name="twenty")
        call = ("call", "twenty", ())
        nine = (call,) * 9
        self.right(forty, deal(*nine, *(SET,) * 19))
        self.long(1, forty, deal(*nine, *(SET,) * 20))
        self.right(forty, deal(*nine, *(SET,) * 17, ("if", T, (), ())))
        self.long(1, forty, deal(*nine, *(SET,) * 18, ("if", T, (), ())))
        self.right(forty, deal(*nine, ("if", T, (SET,) * 8, (NEED,) * 9)))
        self.long(1, forty, deal(*nine, ("if", T, (SET,) * 8, (NEED,) * 10)))
        # The stop of a deal that is called is not there.
        self.right(forty, deal(*(SET,) * 19, name="nineteen"), deal(*nine, ("call", "nineteen", ())))
        self.long(2, forty, deal(*(SET,) * 20, name="again"), deal(*nine, ("call", "again", ())))
        self.long(1, forty, deal(*nine, call), deal(*nine, call, name="u"))

    def test_the_first_of_two(self):
        thirty = deal(*(SET,) * 30, name="thirty")
        call = ("call", "thirty", ())
        self.long(2, thirty, deal(*(call,) * 6), deal(*(call,) * 7, name="u"), deal(*(call,) * 7, name="v"))

    def test_codes_that_could_not_be_built(self):
        deals = [deal(SET, name="d0")]
        for at in range(1, 30):
            deals.append(deal(*(("call", "d" + str(at - 1), ()),) * 30, name="d" + str(at)))
        self.long(2, *deals)
        deals[0] = deal(name="d0")
        self.right(*deals)
        self.right(*deals[:29], deal(*(("call", "d28", ()),) * 29, SET, name="d29"))
        doubled = [deal(SET, name="d0")]
        for at in range(1, 8):
            doubled.append(deal(*(("call", "d" + str(at - 1), ()),) * 2, name="d" + str(at)))
        self.right(*doubled)
        self.long(8, *doubled, deal(("call", "d7", ()), ("call", "d7", ()), name="d8"))

    def test_too_deep_by_the_args(self):
        params = (("a", "rec"), ("n", "num"), ("m", "num"))
        for depth in range(1, 6):
            for level in range(1, 6):
                low = deal(("set", X, deepened("add", ("arg", "n"), level)), name="low", params=params)
                inner = deepened("sub", ("arg", "n"), level)
                test = ("or", T, ("not", ("less", ONE, inner)))
                need = deal(("need", ("and", ("eq", inner, ONE), T), "q"), name="low", params=params)
                branch = deal(("if", test, (), ()), name="low", params=params)
                given = ("call", "low", (X, deepened("mul", ONE, depth), deepened("mul", ONE, 5)))
                for callee in (low, need, branch):
                    if depth + level - 1 > 5:
                        self.long(1, callee, deal(given))
                    else:
                        self.right(callee, deal(given))

    def test_args_that_stand_nowhere(self):
        five = deepened("add", ONE, 5)
        empty = deal(name="low", params=(("n", "num"),))
        passed = deal(("call", "low", (("add", ("arg", "n"), ONE),)), name="mid", params=(("n", "num"),))
        self.right(empty, passed, deal(("call", "mid", (five,))))
        used = deal(("set", X, ("arg", "n")), name="low", params=(("n", "num"),))
        self.long(2, used, passed, deal(("call", "mid", (five,))))
        self.right(used, passed, deal(("call", "mid", (deepened("add", ONE, 4),))))

    def test_too_deep_through_several_deals(self):
        deals = [deal(("set", X, ("arg", "n")), name="d0", params=(("n", "num"),))]
        for at in range(1, 9):
            given = ("add", ("worth", X), ("arg", "n"))
            deals.append(deal(("call", "d" + str(at - 1), (given,)), name="d" + str(at), params=(("n", "num"),)))
        self.right(*deals[:5])
        self.long(5, *deals[:6])
        self.long(5, *deals)

    def test_tests_are_never_deeper(self):
        low = deal(("need", deepened("and", ("eq", ("arg", "n"), ONE), 5), "q"), name="low", params=(("n", "num"),))
        self.right(low, deal(("call", "low", (deepened("add", ONE, 5),))))


class Wrong(Checking):
    def test_whatever_is_handed_in(self):
        for thing in ODD:
            for book in (thing, (thing, (), ()), (SMALL, thing, ()), (SMALL, (), thing), (SMALL, (thing,), ()),
                         (SMALL, (), (thing,)),
                         (SMALL, (deal(thing),), ()), (SMALL, (("t", thing, ()),), ()),
                         (SMALL, (("t", (), thing),), ())):
                try:
                    self.assertEqual(made_book(self.bank, book), book)
                except Refused as error:
                    self.assertIn(error.__class__, (BadBook, BadSchema, BadDeal, BadKeep))


if __name__ == "__main__":
    unittest.main()
