"""Texts of schemas, deals, keeps and books, and that they are read back; and texts spoilt at each word ([61], [69])."""

import re
import unittest

from helper import ODD, deepened, drawn_book, plain_bank, what_of
from twicemany.bookreader import read_book, read_deal, read_keep, read_schema
from twicemany.checker import made_book
from twicemany.errors import BadBook, BadDeal, BadKeep, BadNumber, BadSchema, BadText, NoName, Refused, TooLong
from twicemany.printer import print_book, print_deal, print_keep, print_schema

SCHEMA = ((("ann", 100), ("bob", 100)), (("shop", 100),))
GREAT = ((("x", 1009), ("y", 500)), (("z", 1000), ("w", 20)), (("v", 60),))
ANN, BOB = ("rec", "ann"), ("rec", "bob")
A, N = ("arg", "a"), ("arg", "n")
ONE, TWO, THREE = ("num", 1), ("num", 2), ("num", 3)
SO = ("eq", ONE, ONE)
NO = ("less", ("worth", ANN), TWO)
PAY = ("pay", (("a", "rec"), ("b", "rec"), ("n", "num")), (
    ("need", ("not", ("less", ("worth", A), N)), "short"), ("set", A, ("sub", ("worth", A), N)),
    ("set", ("arg", "b"), ("add", ("worth", ("arg", "b")), N))))
PAY_TEXT = "deal pay(rec a, rec b, num n) { need not a < n else short; a := a - n; b := b + n }"
SHORT = re.compile("[a-z0-9]+|:=|[^ ]")


def add(one, other):
    return ("add", one, other)


def sub(one, other):
    return ("sub", one, other)


def mul(one, other):
    return ("mul", one, other)


def words_of(text):
    """The words of a text, with their places."""
    return [(found.start(), found.group()) for found in SHORT.finditer(text)]


class Printing(unittest.TestCase):
    def setUp(self):
        self.bank = plain_bank()

    def deal(self, deal, text, *ahead):
        book = (SCHEMA, ahead + (deal,), ())
        self.assertEqual(print_deal(self.bank, book, len(ahead)), text)
        self.assertEqual(read_deal(self.bank, (SCHEMA, ahead, ()), text), deal)

    def body(self, body, text):
        self.deal(("t", (("a", "rec"), ("n", "num")), body), "deal t(rec a, num n) " + text)

    def keep(self, keep, text):
        book = (SCHEMA, (), (SO, keep))
        self.assertEqual(print_keep(self.bank, book, 1), "keep " + text)
        self.assertEqual(read_keep(self.bank, book, "keep " + text), keep)

    def number(self, number, text):
        self.body((("set", ANN, number),), "{ ann := " + text + " }")


class Texts(Printing):
    def test_schemas(self):
        self.assertEqual(print_schema(self.bank, SCHEMA), "row ann 100, bob 100; row shop 100")
        self.assertEqual(print_schema(self.bank, ((("a", 2),),)), "row a 2")
        for schema in (SCHEMA, GREAT, ((("a", 2),),)):
            self.assertEqual(read_schema(self.bank, print_schema(self.bank, schema)), schema)

    def test_the_examples(self):
        self.deal(PAY, PAY_TEXT)
        self.number(sub(ONE, add(TWO, mul(THREE, ("num", 4)))), "1 - (2 + 3 * 4)")
        self.keep(("not", ("eq", ("worth", ("rec", "shop")), THREE)), "not shop = 3")

    def test_numbers(self):
        n, a = N, ("worth", A)
        for number, text in (
            (("num", 0), "0"), (("num", 9999), "9999"), (n, "n"), (a, "a"), (("worth", BOB), "bob"),
            (add(add(ONE, n), a), "1 + n + a"), (add(ONE, add(n, a)), "1 + (n + a)"),
            (sub(sub(ONE, n), a), "1 - n - a"),
            (sub(ONE, sub(n, a)), "1 - (n - a)"), (add(ONE, sub(n, a)), "1 + (n - a)"), (add(sub(ONE, n), a), "1 - n + a"),
            (mul(sub(ONE, n), a), "(1 - n) * a"), (sub(ONE, mul(n, a)), "1 - n * a"),
            (sub(add(ONE, n), a), "1 + n - a"),
            (mul(mul(ONE, n), a), "1 * n * a"), (mul(ONE, mul(n, a)), "1 * (n * a)"),
            (add(mul(ONE, n), a), "1 * n + a"),
            (add(ONE, mul(n, a)), "1 + n * a"), (mul(add(ONE, n), a), "(1 + n) * a"),
            (mul(ONE, sub(n, a)), "1 * (n - a)"),
            (mul(add(ONE, n), sub(n, a)), "(1 + n) * (n - a)"), (sub(mul(ONE, n), mul(n, a)), "1 * n - n * a"),
        ):
            self.number(number, text)

    def test_tests(self):
        so, no = "1 = 1", "ann < 2"
        for test, text in (
            (SO, so), (NO, no), (("eq", add(ONE, TWO), mul(sub(ONE, TWO), THREE)), "1 + 2 = (1 - 2) * 3"),
            (("or", ("or", SO, NO), SO), f"{so} or {no} or {so}"),
            (("or", SO, ("or", NO, SO)), f"{so} or [{no} or {so}]"),
            (("and", ("and", SO, NO), SO), f"{so} and {no} and {so}"),
            (("and", SO, ("and", NO, SO)), f"{so} and [{no} and {so}]"),
            (("or", ("and", SO, NO), ("and", NO, SO)), f"{so} and {no} or {no} and {so}"),
            (("and", ("or", SO, NO), ("or", NO, SO)), f"[{so} or {no}] and [{no} or {so}]"),
            (("not", ("not", NO)), f"not not {no}"),
            (("not", ("or", SO, NO)), f"not [{so} or {no}]"), (("not", ("and", SO, NO)), f"not [{so} and {no}]"),
            (("and", ("not", SO), ("not", NO)), f"not {so} and not {no}"),
            (("or", ("not", SO), ("not", NO)), f"not {so} or not {no}"),
        ):
            self.keep(test, text)
            self.body((("need", test, "x"),), "{ need " + text + " else x }")
            self.body((("if", test, (), ()),), "{ if " + text + " {} }")

    def test_bodies(self):
        one = ("set", ANN, ONE)
        self.deal(("t", (), ()), "deal t() {}")
        self.deal(("t", (("n", "num"),), ()), "deal t(num n) {}")
        self.body((one, ("set", A, N)), "{ ann := 1; a := n }")
        self.body((("if", SO, (one,), ()),), "{ if 1 = 1 { ann := 1 } }")
        self.body((("if", SO, (), (one, one)), one), "{ if 1 = 1 {} else { ann := 1; ann := 1 }; ann := 1 }")
        self.body((("if", SO, (("if", NO, (), (one,)),), (("if", NO, (one,), ()),)),),
                  "{ if 1 = 1 { if ann < 2 {} else { ann := 1 } } else { if ann < 2 { ann := 1 } } }")
        self.body((("need", SO, "ann"),), "{ need 1 = 1 else ann }")

    def test_calls(self):
        none = ("none", (), ())
        calling = ("t", (("c", "rec"),),
                   (("call", "none", ()), ("call", "pay", (ANN, ("arg", "c"), add(ONE, ("worth", ("arg", "c"))))),
                                          ("call", "pay", (BOB, BOB, mul(ONE, add(TWO, THREE))))))
        self.deal(calling, "deal t(rec c) { none(); pay(ann, c, 1 + c); pay(bob, bob, 1 * (2 + 3)) }", none, PAY)

    def test_books(self):
        book = (SCHEMA, (PAY, ("t", (), ())), (SO, NO))
        texts = ("row ann 100, bob 100; row shop 100", PAY_TEXT, "deal t() {}", "keep 1 = 1", "keep ann < 2")
        self.assertEqual(print_book(self.bank, book), texts)
        self.assertEqual(read_book(self.bank, texts), book)
        self.assertEqual(print_book(self.bank, (SCHEMA, (), ())), texts[:1])

    def test_the_deepest(self):
        five = deepened("and", SO, 5)
        right = SO
        for _ in range(4):
            right = ("and", SO, right)
        number = ONE
        for _ in range(4):
            number = mul(TWO, number)
        for keep in (five, right, ("eq", number, number), deepened("not", ("less", number, ONE), 5)):
            text = print_keep(self.bank, (SCHEMA, (), (keep,)), 0)
            self.assertEqual(read_keep(self.bank, (SCHEMA, (), ()), text), keep)
        body = (("set", ANN, ONE),)
        for _ in range(4):
            body = (("if", SO, body, body),)
        book = (SCHEMA, (("t", (), body),), ())
        self.assertEqual(read_book(self.bank, print_book(self.bank, book)), book)

    def test_wrong_arguments(self):
        book = (SCHEMA, (PAY,), (SO, NO))
        for index in ODD[:4] + (-1, 1, 2, 10 ** 900, "0", (0,)):
            self.assertEqual(what_of(self, BadNumber, print_deal, self.bank, book, index), index)
        for index in ODD[:4] + (-1, 2, 3, 10 ** 900, "0", (0,)):
            self.assertEqual(what_of(self, BadNumber, print_keep, self.bank, book, index), index)
        self.assertEqual(what_of(self, BadNumber, print_deal, self.bank, (SCHEMA, (), ()), 0), 0)
        self.assertEqual(what_of(self, BadNumber, print_keep, self.bank, (SCHEMA, (), ()), 0), 0)
        long = (("l", (), (("set", ANN, ONE),) * 30), ("m", (), (("call", "l", ()),) * 30))
        for thing, error, what in ((None, BadBook, -1), (((), (), ()), BadSchema, -1),
                                   ((SCHEMA, (None,), ()), BadDeal, (0, (-1,))),
                                   ((SCHEMA, long, ()), TooLong, 1), ((SCHEMA, (), (None,)), BadKeep, 0)):
            for call in (print_deal, print_keep):
                self.assertEqual(what_of(self, error, call, self.bank, thing, None), what)
            self.assertEqual(what_of(self, error, print_book, self.bank, thing), what)
        for schema, what in ((None, -1), ((), -1), (SCHEMA + (None,), 2), (SCHEMA[:1] * 2, 1)):
            self.assertEqual(what_of(self, BadSchema, print_schema, self.bank, schema), what)
        self.assertEqual(what_of(self, BadSchema, print_schema, plain_bank(most=1), SCHEMA), -1)


class Drawn(unittest.TestCase):
    def setUp(self):
        self.bank = plain_bank()

    def books(self, many, deals):
        """Drawn books of which no deal is too long, each with its texts."""
        found = []
        for seed in range(many):
            book = drawn_book(seed, GREAT, deals, 3)
            try:
                made_book(self.bank, book)
            except TooLong:
                continue
            found.append((book, print_book(self.bank, book)))
        return found

    def test_drawn_books_are_read_back(self):
        found = self.books(300, 5)
        self.assertTrue(len(found) > 150)
        for book, texts in found:
            if all(len(text) <= 20000 for text in texts):
                self.assertEqual(read_book(self.bank, texts), book)
            for index, deal in enumerate(book[1]):
                self.assertEqual(print_deal(self.bank, book, index), texts[1 + index])
                self.assertEqual(read_deal(self.bank, (GREAT, book[1][:index], ()), texts[1 + index]), deal)
            for index in range(3):
                self.assertEqual(print_keep(self.bank, book, index), texts[len(texts) - 3 + index])

    def test_blanks_only_part_words(self):
        for book, texts in self.books(60, 4):
            for told in (wider(texts), closer(texts)):
                self.assertEqual(read_book(self.bank, told), book)

    def test_needless_brackets(self):
        """Without any one pair of brackets of a number or a test, the text tells something else, or nothing."""
        many = 0
        for book, texts in self.books(80, 2):
            for index, text in enumerate(texts[-3:]):
                for opening, closing in pairs_of(text):
                    bare = text[:opening] + " " + text[opening + 1:closing] + " " + text[closing + 1:]
                    try:
                        self.assertNotEqual(read_keep(self.bank, (GREAT, (), ()), bare), book[2][index])
                    except Refused:
                        pass
                    many += 1
        self.assertTrue(many > 40, many)

    def test_texts_spoilt_at_each_word(self):
        for book, texts in self.books(40, 3):
            for index in range(len(book[1])):
                if len(texts[1 + index]) < 1500:
                    self.spoil((GREAT, book[1][:index], ()), texts[1 + index], read_deal)
            for text in texts[-3:]:
                self.spoil((GREAT, (), ()), text, read_keep)

    def spoil(self, book, text, read):
        words = words_of(text)
        for at, (place, word) in enumerate(words):
            behind = text[place + len(word):]
            # What cannot stand anywhere, and a word that cannot stand here.
            for wrong in ("?", "A", ":", "abcdefghijklm", "00", "12345678", "does"):
                self.assertEqual(what_of(self, BadText, read, self.bank, book,
                                         text[:place] + " " + wrong + " " + behind), place + 1)
            self.assertEqual(what_of(self, BadText, read, self.bank, book, text[:place] + "\n" + behind), place)
            self.ends_early(book, text[:place], read)
            ahead = words[at - 1][1] if at else ""
            if word.isdigit():
                self.assertEqual(what_of(self, BadNumber, read, self.bank, book, text[:place] + "10000" + behind),
                                 place)
            elif is_used(word, ahead):
                self.assertEqual(what_of(self, NoName, read, self.bank, book, text[:place] + "nobody" + behind),
                                 place)
        for more in ("x", "}", "1", "else", ";"):
            self.assertEqual(what_of(self, BadText, read, self.bank, book, text + " " + more), len(text) + 1)

    def ends_early(self, book, text, read):
        """The text of a deal ends nowhere else; that of a keep may."""
        if read == read_deal:
            self.assertEqual(what_of(self, BadText, read, self.bank, book, text), len(text))
            return
        try:
            told = read(self.bank, book, text)
            self.assertEqual(read(self.bank, book, print_keep(self.bank, (GREAT, (), (told,)), 0)), told)
        except BadText as error:
            self.assertEqual(error.what, len(text))

    def test_schemas_spoilt_at_each_word(self):
        text = print_schema(self.bank, GREAT)
        for place, word in words_of(text):
            behind = text[place + len(word):]
            for wrong in ("?", "A", "if", "00", "12345678", "="):
                self.assertEqual(what_of(self, BadText, read_schema, self.bank,
                                         text[:place] + " " + wrong + " " + behind), place + 1)
            if word not in (",", ";"):
                self.assertEqual(what_of(self, BadText, read_schema, self.bank, text[:place]), place)


def wider(texts):
    return tuple("  ".join([""] + [word for _, word in words_of(text)] + [""]) for text in texts)


def closer(texts):
    """With blanks only between words of letters and figures."""
    return tuple(re.sub(" (?=[^a-z0-9])|(?<=[^a-z0-9]) ", "", text) for text in texts)


def is_used(word, ahead):
    """Whether a word of a printed deal or keep is a name that stands for something."""
    return bool(re.fullmatch("[a-z][a-z0-9]*", word)) and word not in (
        "deal", "keep", "need", "else", "if", "rec", "num", "not", "and", "or") and ahead not in ("deal", "rec",
                                                                                                  "num", "else")


def pairs_of(text):
    """The places of the brackets that belong together."""
    waiting, found = [], []
    for place, sign in enumerate(text):
        if sign in "([":
            waiting.append(place)
        elif sign in ")]":
            found.append((waiting.pop(), place))
    return found


if __name__ == "__main__":
    unittest.main()
