"""Schemas, deals, keeps and books, read from texts, and the place at which a text is refused ([60] to [68])."""

import unittest

from helper import ODD, plain_bank, what_of
from twicemany.bookreader import read_book, read_deal, read_keep, read_schema
from twicemany.errors import (BadBook, BadDeal, BadKeep, BadNumber, BadRow, BadSchema, BadText, NoName, Refused,
                              TooDeep, TooLong,
                              TooMany, Twice)

SCHEMA = ((("ann", 100), ("bob", 100)), (("shop", 100),))
SCHEMA_TEXT = "row ann 100, bob 100; row shop 100"
ANN, BOB, SHOP = ("rec", "ann"), ("rec", "bob"), ("rec", "shop")
A, N = ("arg", "a"), ("arg", "n")
EMPTY = (SCHEMA, (), ())
SO = ("eq", ("num", 1), ("num", 1))
GIVE = ("give", (("a", "rec"), ("n", "num")), (("set", A, N),))
NONE = ("none", (), ())
BOOK = (SCHEMA, (GIVE, NONE), ())
PAY_TEXT = "deal pay(rec a, rec b, num n) { need not [a < n] else short; a := a - n; b := b + n }"
PAY = ("pay", (("a", "rec"), ("b", "rec"), ("n", "num")), (
    ("need", ("not", ("less", ("worth", A), N)), "short"), ("set", A, ("sub", ("worth", A), N)),
    ("set", ("arg", "b"), ("add", ("worth", ("arg", "b")), N))))
LETTERS = "abcdefghijklmnopqrstuvwxyz"


def num(number):
    return ("num", number)


def worth(rec):
    return ("worth", rec)


class Reading(unittest.TestCase):
    def setUp(self):
        self.bank = plain_bank(cells=8, rows=16)

    def no(self, error, what, read, *args):
        self.assertEqual(what_of(self, error, read, *args), what, args[-1])

    def deal(self, text, told, book=BOOK, bank=None):
        self.assertEqual(read_deal(self.bank if bank is None else bank, book, text), told)

    def body(self, text, *told):
        """A body of a deal with the params a, a record, and n, a number."""
        self.deal("deal t(rec a, num n) { " + text + " }", ("t", (("a", "rec"), ("n", "num")), told))

    def no_deal(self, error, what, text, book=BOOK, bank=None):
        self.no(error, what, read_deal, self.bank if bank is None else bank, book, text)

    def keep(self, text, told):
        self.assertEqual(read_keep(self.bank, BOOK, "keep " + text), told)

    def no_keep(self, error, text):
        """The word at which it is refused stands behind the sign ^; without one it is the end of the text."""
        text = "keep " + text
        place = text.index("^") if "^" in text else len(text)
        self.no(error, place, read_keep, self.bank, BOOK, text.replace("^", ""))

    def wrong(self, error, text, book=BOOK):
        """A text of a deal, refused at the word behind the sign ^, or at its end without one."""
        place = text.index("^") if "^" in text else len(text)
        self.no_deal(error, place, text.replace("^", ""), book)

    def wrong_body(self, error, text):
        self.wrong(error, "deal t(rec a, num n) { " + text)


class Texts(Reading):
    def reads(self):
        return ((read_schema, (self.bank,)), (read_deal, (self.bank, BOOK)), (read_keep, (self.bank, BOOK)))

    def test_what_is_no_text(self):
        for read, args in self.reads():
            for thing in (None, True, 5, (), ("row ann 5",), b"row ann 5", 10 ** 900):
                self.no(BadText, -1, read, *args, thing)

    def test_signs(self):
        for read, args in self.reads():
            for sign in [chr(code) for code in (0, 9, 10, 13, 31, 37, 127, 128, 160, 233, 0x430, 0x663, 0x1f600)]:
                self.no(BadText, 0, read, *args, sign)
                self.no(BadText, 7, read, *args, "  ???  " + sign + "?")
                self.no(BadText, 19999, read, *args, " " * 19999 + sign)
            self.no(BadText, 1, read, *args, " ")
            for sign in ("~", "!", "&", "$"):
                self.no(BadText, 0, read, *args, sign)
                self.no(BadText, 1, read, *args, " ?" + sign)

    def test_20000_signs_and_20001(self):
        for read, args in self.reads():
            self.no(BadText, 20000, read, *args, " " * 20000)
            self.no(BadText, 20000, read, *args, "?" + " " * 20000)
            self.no(BadText, 20000, read, *args, "?" + " " * 19999 + "\n")
            self.no(BadText, 0, read, *args, "?" + " " * 19999)
            self.no(BadText, 5, read, *args, "?    %" + " " * 30000)
        text = "keep 1 = 1"
        self.assertEqual(read_keep(self.bank, BOOK, text + " " * (20000 - len(text))), SO)
        self.no(BadText, 20000, read_keep, self.bank, BOOK, text + " " * (20001 - len(text)))

    def test_words(self):
        self.keep("1=1", SO)
        self.keep("  ann<5  ", ("less", worth(ANN), num(5)))
        self.keep("not[ann=5 and 1<2]", ("not", ("and", ("eq", worth(ANN), num(5)), ("less", num(1), num(2)))))
        self.body("ann:=1;bob:=n*n", ("set", ANN, num(1)), ("set", BOB, ("mul", N, N)))
        self.body("ann := a", ("set", ANN, worth(A)))

    def test_what_is_one_word(self):
        self.no_keep(BadText, "not [ann = ^5and 1 < 2]")
        self.no_keep(BadText, "^12ann < 1")
        self.no_keep(NoName, "^ann2 < 1")
        self.no_keep(BadText, "^Ann < 1")
        self.no_keep(BadText, "^ANN < 1")
        self.no_keep(BadText, "ann^_x < 1")
        self.no_keep(BadText, "ann ^:= 1")
        self.no_keep(BadText, "ann ^: = 1")
        self.no_keep(BadText, "ann < 1 ^: = 1")
        self.wrong_body(BadText, "ann ^: = 1 }")
        self.wrong_body(BadText, "ann ^::= 1 }")
        self.wrong_body(BadText, "ann := ^:= 1 }")
        self.wrong_body(BadText, "ann := ^= 1 }")

    def test_names_and_figure_words(self):
        self.deal("deal abcdefghijkl() {}", ("abcdefghijkl", (), ()))
        self.wrong(BadText, "deal ^abcdefghijklm() {}")
        self.wrong(BadText, "deal ^9a() {}")
        self.wrong(BadText, "deal ^if() {}")
        for figures in ("0", "7", "10", "9999"):
            self.keep(figures + " = 1", ("eq", num(int(figures)), num(1)))
        for figures in ("10000", "9999999"):
            self.no_keep(BadNumber, "^" + figures + " = 1")
        for figures in ("00", "01", "0999", "10000000", "0" * 30, "1" * 900):
            self.no_keep(BadText, "^" + figures + " = 1")
        for word in ".", "_", "?", "'", "#", "!", "|", "/", "@", "&", "A":
            self.no_keep(BadText, "1 = 1 ^" + word)
            self.no_keep(BadText, "^" + word)
            self.wrong_body(BadText, "ann := 1; ^" + word)


class Schemas(Reading):
    def schema(self, text, told, bank=None):
        self.assertEqual(read_schema(self.bank if bank is None else bank, text), told)

    def wrong_schema(self, error, text, bank=None):
        place = text.index("^") if "^" in text else len(text)
        self.no(error, place, read_schema, self.bank if bank is None else bank, text.replace("^", ""))

    def test_schemas(self):
        self.schema(SCHEMA_TEXT, SCHEMA)
        self.schema("row a 2", ((("a", 2),),))
        self.schema(" row a 2,b 1009;row rows 3 ", ((("a", 2), ("b", 1009)), (("rows", 3),)))

    def test_words_that_cannot_stand(self):
        for text in ("", "   ", "row", "row ann", "row ann 5,", "row ann 5;", "row ann 5; row", "^rows ann 5",
                     "^ann 5", "row ^5 5", "row ^if 5", "row ^row 5",
                     "row ann ^bob", "row ann ^, bob 5", "row ann 5 ^bob 5", "row ann 5 ^row bob 5",
                     "row ann 5; ^bob 5", "row ann 5, ^row bob 5",
                     "row ann ^05", "row ann ^12345678", "row ann 5 ^.", "row ann ^-5", "row ann 5;^; row bob 5",
                     "row ^; row", "^; row"):
            self.wrong_schema(BadText, text)

    def test_sizes(self):
        for p in (257, 1009, 1000003):
            bank = plain_bank(p=p)
            for size in (2, 256, 257, p - 1, p):
                self.schema("row a " + str(size), ((("a", size),),), bank)
            for size in (0, 1, p + 1, 9999999):
                self.wrong_schema(BadNumber, "row a ^" + str(size), bank)
        self.wrong_schema(BadNumber, "row a 5, b ^1, a 5 ?")

    def test_names_twice(self):
        self.wrong_schema(Twice, "row ann 5, ^ann 5")
        self.wrong_schema(Twice, "row ann 5, bob 5; row ^bob 1")
        self.wrong_schema(Twice, "row ann 5; row bob 5; row c 5, ^ann ?")
        self.schema("row ann 5; row ann1 5", ((("ann", 5),), (("ann1", 5),)))

    def test_how_many_rows(self):
        for rows, most in ((2, 1), (3, 2), (15, 14), (16, 15)):
            bank = plain_bank(rows=rows)
            text = "; ".join("row " + letter + " 9" for letter in LETTERS[:most])
            self.schema(text, tuple(((letter, 9),) for letter in LETTERS[:most]), bank)
            self.wrong_schema(TooMany, text + "; ^row z 9", bank)
            self.wrong_schema(TooMany, text + "; ^row ?", bank)
            self.wrong_schema(BadText, text + "; ^rows z 9", bank)
        self.wrong_schema(TooMany, "^row a 5", plain_bank(rows=1))

    def test_how_many_records(self):
        for cells, most in ((3, 2), (4, 3), (7, 6), (8, 7)):
            bank = plain_bank(cells=cells)
            text = "row " + ", ".join(letter + " 9" for letter in LETTERS[:most])
            self.schema(text, (tuple((letter, 9) for letter in LETTERS[:most]),), bank)
            self.wrong_schema(TooMany, text + ", ^z 9", bank)
            # That there are too many is asked ahead of whether the name is taken.
            self.wrong_schema(TooMany, text + ", ^a 9", bank)
            self.wrong_schema(BadText, text + ", ^9", bank)
            self.schema(text + "; row z 9", (tuple((letter, 9) for letter in LETTERS[:most]), (("z", 9),)), bank)

    def test_banks_that_are_too_small(self):
        for bank in (plain_bank(most=1), plain_bank(p=251), plain_bank(cells=2, most=2)):
            for text in (None, "", SCHEMA_TEXT):
                self.no(BadSchema, -1, read_schema, bank, text)
            for texts in (None, (), (SCHEMA_TEXT,)):
                self.no(BadSchema, -1, read_book, bank, texts)


class Numbers(Reading):
    def number(self, text, told):
        self.body("ann := " + text, ("set", ANN, told))
        self.body("need 1 = " + text + " else x", ("need", ("eq", num(1), told), "x"))

    def test_sums_and_products(self):
        a, b, n = worth(A), worth(BOB), N
        for text, told in (
            ("7", num(7)), ("n", n), ("a", a), ("bob", b), ("a - bob + n", ("add", ("sub", a, b), n)),
            ("a - (bob + n)", ("sub", a, ("add", b, n))),
            ("a * bob * n", ("mul", ("mul", a, b), n)), ("a * (bob * n)", ("mul", a, ("mul", b, n))),
            ("a + bob * n", ("add", a, ("mul", b, n))),
            ("(a + bob) * n", ("mul", ("add", a, b), n)),
            ("a * bob - n * 2", ("sub", ("mul", a, b), ("mul", n, num(2)))), ("((n))", n),
            ("1 - (2 + 3 * 4)", ("sub", num(1), ("add", num(2), ("mul", num(3), num(4))))),
            ("1-2", ("sub", num(1), num(2))),
            ("(1) + (a)", ("add", num(1), a)),
        ):
            self.number(text, told)

    def test_words_that_cannot_stand(self):
        for text in ("ann :=", "ann := ^}", "ann := ^; bob", "ann := 1 +", "ann := 1 + ^}", "ann := 1 + ^* 2 }",
                     "ann := ^- 1 }", "ann := ^+ 1 }", "ann := 1 ^2 }",
                     "ann := (1", "ann := (1 ^}", "ann := (^) }", "ann := 1 ^) }", "ann := ^[1] }", "ann := 1 ^< 2 }",
                     "ann := 1 ^= 2 }", "ann := ^not }", "ann := 1 ^and 2 }",
                     "ann := n ^ann }", "ann := (n ^ann }", "ann := (1 ^] }", "ann := ^else }", "ann := 1 ^, 2 }",
                     "ann := n ^(1) }", "ann := (1) ^(2) }"):
            self.wrong_body(BadText, text)

    def test_names(self):
        for text in ("ann := ^tom }", "ann := ^t }", "ann := ^give }", "ann := 1 + ^none(", "ann := (^b",
                     "ann := n * ^x9 ?"):
            self.wrong_body(NoName, text)
        self.deal("deal t(rec b) { ann := b }", ("t", (("b", "rec"),), (("set", ANN, worth(("arg", "b"))),)))
        self.wrong(NoName, "deal t(rec b) { ann := ^a }")

    def test_figures(self):
        self.wrong_body(BadNumber, "ann := ^10000 }")
        self.wrong_body(BadNumber, "ann := 1 + ^9999999 ?")
        self.wrong_body(BadText, "ann := ^12345678 }")
        self.number("9999", num(9999))
        self.number("0", num(0))

    def test_how_deep(self):
        self.number("1 + 2 + 3 + 4 + 5", ("add", ("add", ("add", ("add", num(1), num(2)), num(3)), num(4)), num(5)))
        self.number("n + ann + a + n + n", ("add", ("add", ("add", ("add", N, worth(ANN)), worth(A)), N), N))
        for text in ("n + n + n + n + n ^+ n }", "1 ^+ (1 + (1 + (1 + (n + n)))) }", "n - a - a - a - a ^- ann }"):
            self.wrong_body(TooDeep, "ann := " + text)
        self.number("1 + (2 + (3 + (4 + 5)))",
                    ("add", num(1), ("add", num(2), ("add", num(3), ("add", num(4), num(5))))))
        for text in ("1 + 2 + 3 + 4 + 5 ^+ 6 }", "1 + 2 + 3 + 4 + 5 ^- 6 + tom }", "1 * 2 * 3 * 4 * 5 ^* 6 }",
                     "1 ^+ (2 + (3 + (4 + (5 + 6)))) }",
                     "(1 * 2 * 3 * 4 * 5) ^- 6", "1 + 2 * 3 * 4 * 5 * 6 ^* 7 }", "1 ^+ 2 * 3 * 4 * 5 * 6 }",
                     "1 * 2 * 3 * 4 * 5 ^- 6 * 7 }", "n * (1 ^+ (2 - (3 * 4 * n * n))) ?",
                     "1 ^- (1 + 2 + 3 + 4 + 5) ?", "1 + 2 + 3 + 4 + 5 ^+ 6 + ?"):
            self.wrong_body(TooDeep, "ann := " + text)

    def test_it_is_asked_when_all_is_read_that_the_sign_joins(self):
        self.wrong_body(NoName, "ann := 1 + 2 + 3 + 4 + 5 + ^tom }")
        self.wrong_body(BadText, "ann := 1 + 2 + 3 + 4 + 5 + ^}")
        self.wrong_body(NoName, "ann := 1 + 2 + 3 + 4 + 5 + 6 * ^tom }")
        self.wrong_body(NoName, "ann := 1 + (2 + (3 + (4 + (5 + ^tom)))) }")
        self.wrong_body(BadText, "ann := 1 + (2 + (3 + (4 + (5 + 6))) ^}")
        self.wrong_body(BadText, "ann := 1 + 2 + 3 + 4 + 5 + (6 ^}")
        self.wrong_body(TooDeep, "ann := 1 + 2 + 3 + 4 + 5 ^+ 6 ?")
        self.wrong_body(TooDeep, "ann := 1 + 2 + 3 + 4 + 5 * 6 ^+ 7 * 8 ?")

    def test_12_and_13_brackets(self):
        self.number("(" * 12 + "1" + ")" * 12, num(1))
        self.number("(" * 12 + "1" + ")" * 12 + " + " + "(" * 12 + "2" + ")" * 12, ("add", num(1), num(2)))
        self.wrong_body(TooDeep, "ann := " + "(" * 12 + "^(1")
        self.wrong_body(TooDeep, "ann := " + "(" * 12 + "^(?")
        self.wrong_body(TooDeep, "ann := " + "((" + "1" + ") + " + "(" * 11 + "^(")
        self.wrong_body(TooDeep, "need " + "[" * 6 + "(" * 6 + "^(1")
        self.wrong_body(TooDeep, "need " + "[" * 12 + "^[1 = 1")
        self.wrong_body(TooDeep, "need " + "[" * 12 + "^(1 = 1")
        self.body("need " + "[" * 6 + "(" * 6 + "1" + ")" * 6 + " = 1" + "]" * 6 + " else x", ("need", SO, "x"))
        # Those of a deal that is called are none of numbers.
        self.body("give(a, " + "(" * 12 + "1" + ")" * 12 + ")", ("call", "give", (A, num(1))))
        self.wrong_body(TooDeep, "give(a, " + "(" * 12 + "^(1")
        # Words that cannot stand are refused ahead of it.
        self.wrong_body(BadText, "ann := " + "(" * 12 + "^[1")


class Tests(Reading):
    def test_tests(self):
        one, two = SO, ("less", worth(ANN), num(2))
        a, b = "1 = 1", "ann < 2"
        for text, told in (
            (a, one), (b, two), (f"{a} or {b} or {a}", ("or", ("or", one, two), one)),
            (f"{a} or [{b} or {a}]", ("or", one, ("or", two, one))),
            (f"{a} and {b} or {b} and {a}", ("or", ("and", one, two), ("and", two, one))),
            (f"{a} and [{b} or {b}] and {a}", ("and", ("and", one, ("or", two, two)), one)),
            (f"not {a}", ("not", one)), (f"not not {a}", ("not", ("not", one))),
            (f"not {a} and {b}", ("and", ("not", one), two)),
            (f"not [{a} and {b}]", ("not", ("and", one, two))), (f"[[{a}]]", one),
            (f"{a} and not {b} or not [not {a}]", ("or", ("and", one, ("not", two)), ("not", ("not", one)))),
            ("(1) = (1)", one),
            ("(ann - 1) * 2 < 3 + 4",
             ("less", ("mul", ("sub", worth(ANN), num(1)), num(2)), ("add", num(3), num(4)))),
        ):
            self.keep(text, told)
            self.body("need " + text + " else x", ("need", told, "x"))
            self.body("if " + text + " {}", ("if", told, (), ()))

    def test_words_that_cannot_stand(self):
        for text in ("", "^=", "1", "1 =", "1 = ^=", "1 = 1 ^= 1", "1 +", "1 ^1 = 1", "(1 ^= 1)", "[1 = 1",
                     "[1 = 1 ^)", "[^] = 1", "[1 ^] = 1", "1 = 1 or", "1 = 1 ^not 1 = 1",
                     "1 = 1 and ^or", "not", "not ^and", "1 = ^[1 = 1]", "1 = 1 ^else", "1 = 1 ^;", "1 = 1 ^{", "^if",
                     "1 ^:= 1", "[1 = 1] ^= 1", "[1 = 1] ^+ 1", "1 = ^not 1", "1 < 2 ^< 3", "1 = 1 ^]"):
            self.no_keep(BadText, text)

    def test_keeps_know_records_alone(self):
        for text in ("^tom = 1", "1 = ^a", "ann < ^n ?", "not [^none = 1]", "ann = 1 and ^give(a"):
            self.no_keep(NoName, text)
        self.no_keep(BadNumber, "ann < ^10000")

    def test_how_deep(self):
        a = "1 = 1"
        five = ("or", ("or", ("or", ("or", SO, SO), SO), SO), SO)
        self.keep(" or ".join([a] * 5), five)
        self.keep("not not not not " + a, ("not", ("not", ("not", ("not", SO)))))
        for text in (" or ".join([a] * 5) + " ^or " + a, " and ".join([a] * 5) + " ^and " + a + " ?",
                     "^not not not not not " + a, "not ^not not not not not " + a + " ?",
                     "^not [" + " and ".join([a] * 5) + "]", a + " ^or not not not not " + a,
                     a + " ^and [" + " or ".join([a] * 5) + "]",
                     a + " ^or " + " and ".join([a] * 5), "not [" + a + " ^or not not not not " + a + "]"):
            self.no_keep(TooDeep, text)
        # Numbers and tests are counted apart.
        deep = "1 + 2 + 3 + 4 + 5"
        self.assertEqual(read_keep(self.bank, BOOK, "keep not not not not " + deep + " = " + deep)[0], "not")
        self.no_keep(TooDeep, "not not not not " + deep + " ^+ 6 = 1")
        self.no_keep(TooDeep, "1 = " + deep + " ^- 6")
        self.no_keep(TooDeep, "1 = 1 or 1 < " + deep + " ^- 6 ?")

    def test_it_is_asked_when_all_is_read_that_the_word_joins(self):
        self.no_keep(NoName, "not not not not not 1 = ^tom")
        self.no_keep(BadText, "not not not not not 1 = ")
        self.no_keep(BadText, "not not not not not [1 = 1 ^?")
        self.no_keep(BadText, "1 = 1 or 1 = 1 or 1 = 1 or 1 = 1 or 1 = 1 or 1 = 1 and ^?")
        self.no_keep(TooDeep, "1 = 1 or 1 = 1 or 1 = 1 or 1 = 1 or 1 = 1 ^or 1 = 1 ?")
        self.no_keep(NoName, "1 = 1 and 1 = 1 and 1 = 1 and 1 = 1 and 1 = 1 and not ^tom = 1")

    def test_more_nots_than_could_be_gone_into(self):
        text = "keep " + "not " * 4900
        self.no(TooDeep, 5 + 4 * 4895, read_keep, self.bank, BOOK, text + "1 = 1")
        self.no(NoName, len(text), read_keep, self.bank, BOOK, text + "tom = 1")
        self.no(BadText, len(text), read_keep, self.bank, BOOK, text)
        self.no(TooDeep, 5 + 12, read_keep, self.bank, BOOK, "keep " + "[" * 14000)
        self.no(TooDeep, 5 + 12, read_keep, self.bank, BOOK, "keep " + "(" * 14000)

    def test_brackets(self):
        self.keep("[" * 12 + "1 = 1" + "]" * 12, SO)
        self.no_keep(TooDeep, "[" * 12 + "^[1 = 1")
        self.no_keep(TooDeep, "not [" * 12 + "^(1 = 1")
        self.no_keep(TooDeep, "[" * 11 + "(1) = 1 or (^((")
        self.no_keep(TooDeep, "[" * 11 + "(1) = 1 or [^[")


class Bodies(Reading):
    def test_statements(self):
        self.deal("deal t() {}", ("t", (), ()))
        self.deal("deal t ( ) { } ", ("t", (), ()))
        self.deal(PAY_TEXT, PAY)
        self.body("need 1 = 1 else short; need 1 = 1 else ann; need 1 = 1 else t", ("need", SO, "short"),
                  ("need", SO, "ann"), ("need", SO, "t"))
        self.body("a := n; shop := 1", ("set", A, N), ("set", SHOP, num(1)))
        self.body("if 1 = 1 { a := 1 }; a := 2", ("if", SO, (("set", A, num(1)),), ()), ("set", A, num(2)))
        self.body("if 1 = 1 {} else { a := 1 }", ("if", SO, (), (("set", A, num(1)),)))
        self.body("if 1 = 1 { none() } else {}", ("if", SO, (("call", "none", ()),), ()))
        self.body("if 1 = 1 { if 1 = 1 {} else {} } else { if 1 = 1 {}; none() }",
                  ("if", SO, (("if", SO, (), ()),), (("if", SO, (), ()), ("call", "none", ()))))
        self.body("give(a, n + 1); give(bob, a); none()", ("call", "give", (A, ("add", N, num(1)))),
                  ("call", "give", (BOB, worth(A))), ("call", "none", ()))

    def test_words_that_cannot_stand(self):
        for text in ("", "ann", "ann ^= 1 }", "ann ^(1) }", "ann := 1", "ann := 1 ^ann := 2 }", "ann := 1;",
                     "ann := 1; ^}", "ann := 1 ^{", "^; ann", "^5 := 1 }", "^( }", "^else {} }", "^not }", "^rec }",
                     "need", "need ^else", "need 1 = 1", "need 1 = 1 ^; ann", "need 1 = 1 else", "need 1 = 1 else ^5",
                     "need 1 = 1 else ^if", "need 1 = 1 else ^; }", "need 1 = 1 else x ^y",
                     "if", "if ^{", "if 1 = 1", "if 1 = 1 ^ann := 1", "if 1 = 1 ^else {}", "if 1 = 1 {",
                     "if 1 = 1 {} else", "if 1 = 1 {} else ^; }", "if 1 = 1 {} else ^if 1 = 1 {}",
                     "if 1 = 1 {} ^{} }",
                     "if 1 = 1 {} else {} ^else {} }", "if 1 = 1 {} ^ann := 1 }", "if 1 = 1 { ^; }", "give",
                     "give ^:= 1 }", "give ^; }", "give(", "give(^) }", "give(a", "give(a ^) }", "give(a,",
                     "give(a, ^) }", "give(a, 1 ^, 1) }", "give(a, 1", "give(^1, 1) }", "give(^(a), 1) }",
                     "give(a ^+ 1, 1) }", "give(a, 1) ^+ 1 }", "none(^1) }", "none(", "none() ^() }"):
            self.wrong_body(BadText, text)
        self.wrong(BadText, "deal t() {} ^}")
        self.wrong(BadText, "deal t() {} ^deal u() {}")
        self.wrong(BadText, "deal t() { none() }^;")

    def test_names(self):
        for text in ("^tom := 1 }", "^n := 1 }", "^t() }", "^short(", "^b ?", "ann := 1; ^later() }",
                     "if 1 = 1 { ^tom", "give(^n, 1) }", "give(^tom, 1) }", "give(^none, 1) }", "give(a, ^tom) }",
                     "give(^t ?"):
            self.wrong_body(NoName, text)

    def test_30_statements_and_31(self):
        thirty = ";".join(["ann:=1"] * 30)
        self.body(thirty, *(("set", ANN, num(1)),) * 30)
        self.wrong_body(TooMany, thirty + "; ^ann := 1 }")
        self.wrong_body(TooMany, thirty + "; ^tom ?")
        self.wrong_body(TooMany, thirty + "; ^need ?")
        self.wrong_body(TooMany, thirty + "; ^if")
        self.wrong_body(BadText, thirty + "; ^}")
        self.wrong_body(BadText, thirty + "; ^else")
        self.wrong_body(BadText, thirty + ";")
        # Each body is counted by itself.
        inner = "if 1 = 1 {" + thirty + "} else {" + thirty + "}"
        self.body(";".join([inner] * 2),
                  *(("if", SO, (("set", ANN, num(1)),) * 30, (("set", ANN, num(1)),) * 30),) * 2)
        self.wrong_body(TooMany, "if 1 = 1 {} else { " + thirty + "; ^none() } }")
        self.wrong_body(TooMany, ";".join([inner] + ["none()"] * 29) + "; ^none() }")

    def test_5_and_6_bodies_within_one_another(self):
        told = ()
        for _ in range(4):
            told = (("if", SO, told, ()),)
        self.body("if 1 = 1 { " * 3 + "if 1 = 1 {}" + " }" * 3, *told)
        self.wrong_body(TooDeep, "if 1 = 1 { " * 4 + "if 1 = 1 ^{} " + "}" * 5)
        self.wrong_body(TooDeep, "if 1 = 1 { " * 4 + "none(); if 1 = 1 ^{ ?")
        self.wrong_body(BadText, "if 1 = 1 { " * 4 + "if 1 = 1 ^else")
        self.wrong_body(TooDeep, "if 1 = 1 {} else { " * 4 + "if 1 = 1 ^{}")
        self.wrong_body(NoName, "if 1 = 1 { " * 4 + "if ^tom = 1 {}")


class Deals(Reading):
    def test_the_examples(self):
        self.deal(PAY_TEXT, PAY, EMPTY)
        for error, what, text in ((Twice, 5, "deal ann() {}"), (NoName, 11, "deal t() { tom := 1 }"),
                                  (BadNumber, 18, "deal t() { ann := 10000 }"),
                                  (BadText, 19, "deal t() { ann := 1")):
            self.no_deal(error, what, text, EMPTY)

    def test_words_that_cannot_stand(self):
        for text in ("", "^keep 1 = 1", "^row a 5", "^t() {}", "deal", "deal ^() {}", "deal t", "deal t ^{}",
                     "deal t(", "deal t(^a) {}", "deal t(rec", "deal t(rec ^)",
                     "deal t(rec ^num n)", "deal t(rec a", "deal t(rec a ^rec b)", "deal t(rec a,",
                     "deal t(rec a, ^)", "deal t(^, rec a)", "deal t()", "deal t() ^;", "deal t() ^ann := 1",
                     "deal t(rec a ^: )",
                     "deal t(^need a)", "deal ^5() {}", "deal t() ^[ ]"):
            self.wrong(BadText, text)

    def test_names_that_are_taken(self):
        for text in ("deal ^shop() {}", "deal ^give ?", "deal ^none(", "deal t(rec ^ann) {}", "deal t(num ^give",
                     "deal t(num ^none ?", "deal t(rec ^t)", "deal t(rec a, num ^a)",
                     "deal t(num a, rec b, num ^bob"):
            self.wrong(Twice, text)
        # A later deal may have the name of a param.
        self.deal("deal a(rec n, num b) { n := b }",
                  ("a", (("n", "rec"), ("b", "num")), (("set", ("arg", "n"), ("arg", "b")),)))
        self.deal("deal n() {}", ("n", (), ()))

    def test_how_many_params(self):
        for cells, most in ((3, 1), (4, 2), (5, 3), (6, 4), (8, 4)):
            bank = plain_bank(cells=cells, most=2)
            names = "pqrs"[:most]
            text = "deal t(" + ", ".join("num " + name for name in names)
            self.deal(text + ") {}", ("t", tuple((name, "num") for name in names), ()), EMPTY, bank)
            for more in ("rec z", "num p", "rec", "num ?"):
                self.no_deal(TooMany, len(text) + 2, text + ", " + more, EMPTY, bank)
            self.no_deal(BadText, len(text) + 2, text + ", z", EMPTY, bank)

    def test_30_deals_and_31(self):
        deals = tuple(("d" + str(at), (), ()) for at in range(30))
        self.deal("deal t() { d28() }", ("t", (), (("call", "d28", ()),)), (SCHEMA, deals[:29], ()))
        for text in ("^deal t() {}", "  ^deal", "^deal ann", "^deal ?"):
            self.wrong(TooMany, text, (SCHEMA, deals, ()))
        for text in ("^keep", "", "^t"):
            self.wrong(BadText, text, (SCHEMA, deals, ()))

    def test_how_long_its_code_is_is_not_asked(self):
        thirty = ("thirty", (), (("set", ANN, num(1)),) * 30)
        self.deal("deal t() {" + ";".join(["thirty()"] * 30) + "}", ("t", (), (("call", "thirty", ()),) * 30),
                  (SCHEMA, (thirty,), ()))

    def test_the_book_comes_first(self):
        long = (("l", (), (("set", ANN, num(1)),) * 30), ("m", (), (("call", "l", ()),) * 30))
        for read in (read_deal, read_keep):
            for book, error, what in ((None, BadBook, -1), (((), (), ()), BadSchema, -1),
                                      ((SCHEMA, (None,), ()), BadDeal, (0, (-1,))), ((SCHEMA, long, ()), TooLong, 1),
                                      ((SCHEMA, (), (SO, None)), BadKeep, 1)):
                for text in (None, "", "deal t() {}", "keep 1 = 1"):
                    self.no(error, what, read, self.bank, book, text)


class Keeps(Reading):
    def test_keeps(self):
        self.keep("not [shop = 3]", ("not", ("eq", worth(SHOP), num(3))))
        for text in ("", "^deal t() {}", "^1 = 1", "^keeps 1 = 1"):
            place = text.index("^") if "^" in text else len(text)
            self.no(BadText, place, read_keep, self.bank, BOOK, text.replace("^", ""))

    def test_8_keeps_and_9(self):
        self.assertEqual(read_keep(self.bank, (SCHEMA, (), (SO,) * 7), "keep 1 = 1"), SO)
        for text in ("keep 1 = 1", "keep", "keep ?"):
            self.no(TooMany, 0, read_keep, self.bank, (SCHEMA, (), (SO,) * 8), text)
            self.no(TooMany, 2, read_keep, self.bank, (SCHEMA, (), (SO,) * 8), "  " + text)
        self.no(BadText, 0, read_keep, self.bank, (SCHEMA, (), (SO,) * 8), "deal")


class Books(Reading):
    def no_book(self, error, what, *texts):
        self.no(error, what, read_book, self.bank, texts)

    def test_books(self):
        keep = ("not", ("eq", worth(SHOP), num(3)))
        self.assertEqual(read_book(self.bank, (SCHEMA_TEXT,)), EMPTY)
        self.assertEqual(read_book(self.bank, (SCHEMA_TEXT, PAY_TEXT, "keep not [shop = 3]")),
                         (SCHEMA, (PAY,), (keep,)))
        self.assertEqual(read_book(self.bank, (SCHEMA_TEXT, " keep 1 = 1", "keep 1 = 1")), (SCHEMA, (), (SO, SO)))
        again = ("again", (), (("call", "pay", (ANN, BOB, num(1))),))
        self.assertEqual(read_book(self.bank, (SCHEMA_TEXT, PAY_TEXT, "deal again() { pay(ann, bob, 1) }")),
                         (SCHEMA, (PAY, again), ()))

    def test_what_is_no_tuple_of_texts(self):
        for texts in ODD[:8] + ((), [SCHEMA_TEXT], SCHEMA_TEXT):
            self.no(BadRow, (-1, 0), read_book, self.bank, texts)
        for thing in (None, True, 5, (), (SCHEMA_TEXT,)):
            self.no_book(BadRow, (0, -1), thing)
            self.no_book(BadRow, (2, -1), SCHEMA_TEXT, PAY_TEXT, thing, None)

    def test_the_first_text_that_is_refused(self):
        for texts, what in (
            (("",), (0, 0)), (("deal t() {}",), (0, 0)), (("row ann 1",), (0, 8)),
            ((SCHEMA_TEXT, "deal t() { tom := 1 }", "?"), (1, 11)),
            ((SCHEMA_TEXT, PAY_TEXT, " " + PAY_TEXT), (2, 6)), ((SCHEMA_TEXT, "", "?"), (1, 0)),
            ((SCHEMA_TEXT, "   "), (1, 3)), ((SCHEMA_TEXT, " ?"), (1, 1)),
            ((SCHEMA_TEXT, "  row a 5"), (1, 2)), ((SCHEMA_TEXT, "deals t() {}"), (1, 0)),
            ((SCHEMA_TEXT, "ann"), (1, 0)), ((SCHEMA_TEXT, "deal t() {} %"), (1, 12)),
            ((SCHEMA_TEXT, "keep 1 = 1", "  deal t() {}"), (2, 2)), ((SCHEMA_TEXT, "keep 1 = 1", "deal ?"), (2, 0)),
            ((SCHEMA_TEXT, "keep 1 = 1", PAY_TEXT, None), (2, 0)),
            ((SCHEMA_TEXT, "keep ann = tom"), (1, 11)),
            ((SCHEMA_TEXT, "deal t() { later() }", "deal later() {}"), (1, 11)),
            ((SCHEMA_TEXT, "keep 1 = 10000"), (1, 9)),
            ((SCHEMA_TEXT, "deal t() { ann := 1 }" + " " * 20000), (1, 20000)),
            ((SCHEMA_TEXT,) + ("keep 1 = 1",) * 9, (9, 0)),
            ((SCHEMA_TEXT,) + tuple("deal t" + str(at) + "() {}" for at in range(31)), (31, 0)),
            ((SCHEMA_TEXT, "keep 1 + 1 + 1 + 1 + 1 + 1 = 1"), (1, 23)),
        ):
            self.no_book(BadRow, what, *texts)

    def test_what_the_whole_book_raises(self):
        long = ("deal l() {" + ";".join(["ann := 1"] * 30) + "}", "deal m() {" + ";".join(["l()"] * 7) + "}")
        self.no_book(TooLong, 1, SCHEMA_TEXT, *long)
        self.no_book(TooLong, 1, SCHEMA_TEXT, *long, "keep 1 = 1")
        # What reading refuses in a text behind comes ahead of it.
        self.no_book(BadRow, (3, 0), SCHEMA_TEXT, *long, "row a 5")
        self.no_book(BadRow, (4, 4), SCHEMA_TEXT, *long, "deal n() { m() }", "keep")
        deep = ("deal l(num n) { ann := n + 1 }", "deal m() { l(1 + 2 + 3 + 4 + 5) }")
        self.no_book(TooLong, 1, SCHEMA_TEXT, *deep)

    def test_equal_calls(self):
        texts = (SCHEMA_TEXT, PAY_TEXT, "keep not [shop = 3]")
        self.assertEqual(read_book(self.bank, texts), read_book(self.bank, texts))
        for _ in range(2):
            try:
                read_book(self.bank, texts + ("keep",))
            except Refused as error:
                self.assertEqual(error.what, (3, 4))


if __name__ == "__main__":
    unittest.main()
