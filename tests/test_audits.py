"""Questions of a book and their answers ([55])."""

import unittest

from helper import ODD, Draw, drawn_book, nested, plain_bank, what_of
from twicemany.audits import audit
from twicemany.checker import made_book
from twicemany.errors import BadQuestion, BadWorths

SCHEMA = ((("ann", 100), ("bob", 100)), (("shop", 100),))
BOOK = (SCHEMA, (), ())


def less(name, number):
    return ("less", ("worth", ("rec", name)), ("num", number))


class Audits(unittest.TestCase):
    def test_the_examples(self):
        for question, told in ((("sum", (0, 1)), 5), (("most", (1,)), 0), (("above", 0, (0,)), 1)):
            self.assertEqual(audit(BOOK, (5, 0, 0), question), told)

    def test_rows(self):
        worths = (5, 90, 20)
        for rows, numbers in (((0,), (5, 90)), ((1,), (20,)), ((0, 1), worths)):
            self.assertEqual(audit(BOOK, worths, ("sum", rows)), sum(numbers))
            self.assertEqual(audit(BOOK, worths, ("least", rows)), min(numbers))
            self.assertEqual(audit(BOOK, worths, ("most", rows)), max(numbers))
            for n in (-10 ** 900, -1, 0, 4, 5, 19, 20, 89, 90, 99, 10 ** 900):
                self.assertEqual(audit(BOOK, worths, ("above", n, rows)), sum(number > n for number in numbers))

    def test_a_row_between_others_is_left_out(self):
        schema = ((("a", 9),), (("b", 9), ("c", 9)), (("d", 9),))
        self.assertEqual(audit((schema, (), ()), (1, 2, 3, 8), ("sum", (0, 2))), 9)
        self.assertEqual(audit((schema, (), ()), (1, 2, 3, 8), ("least", (1, 2))), 2)

    def test_keeps(self):
        book = (SCHEMA, (), (less("ann", 6), less("bob", 3), less("shop", 50), less("ann", 5)))
        for worths, told in (((5, 0, 0), (3,)), ((4, 0, 0), ()), ((6, 3, 50), (0, 1, 2, 3)), ((4, 2, 60), (2,))):
            self.assertEqual(audit(book, worths, ("keeps",)), told)
        self.assertEqual(audit(BOOK, (99, 99, 99), ("keeps",)), ())

    def test_what_is_no_question(self):
        wrong = ODD + (nested(40), "keeps", ("keeps", ()), ("keeps", (0,)), ("sum",), ("sum", ()), ("sum", 0),
                       ("sum", (0, 0)),
                       ("sum", (1, 0)), ("sum", (2,)), ("sum", (-1,)), ("sum", (0, 1, 2)), ("sum", (True,)),
                       ("sum", (0,), (1,)),
                       ("sum", [0]), ["sum", (0,)], ("least", None), ("most", ("0",)), ("above", (0,)),
                       ("above", 1, ()),
                       ("above", True, (0,)), ("above", None, (0,)), ("above", "1", (0,)), ("above", 1, (2,)),
                       ("above", 1, 0),
                       ("below", 1, (0,)), ("add", (0,)), (None, (0,)), ("above", (0,), 1), ("sum", 1, (0,)),
                       (("sum",), (0,)))
        for question in wrong:
            self.assertEqual(what_of(self, BadQuestion, audit, BOOK, (5, 0, 0), question), -1, question)

    def test_worths_come_first(self):
        for worths, what in ((None, -1), ((5, 0), -1), ((5, 100, None), 1), ((5, 0, True), 2), ((-1, 0, 0), 0)):
            for question in (None, ("sum", (0,)), ("keeps",)):
                self.assertEqual(what_of(self, BadWorths, audit, BOOK, worths, question), what)

    def test_drawn_books(self):
        schema = ((("x", 100), ("y", 100)), (("z", 100), ("w", 9)), (("v", 100),))
        homes = (0, 0, 1, 1, 2)
        for seed in range(60):
            book = made_book(plain_bank(), drawn_book(seed, schema, 0, 8))
            draw = Draw(seed)
            worths = tuple(draw.below(9) for _ in homes)
            broken = audit(book, worths, ("keeps",))
            for index, keep in enumerate(book[2]):
                alone = (schema, (), (keep,))
                self.assertEqual(audit(alone, worths, ("keeps",)), (0,) if index in broken else ())
                self.assertEqual(audit((schema, (), (("not", keep),)), worths, ("keeps",)),
                                 () if index in broken else (0,))
            rows = draw.part("abc") or (1,)
            numbers = [number for home, number in zip(homes, worths) if home in rows]
            told = [audit(book, worths, (word, rows)) for word in ("sum", "least", "most")]
            self.assertEqual(told, [sum(numbers), min(numbers), max(numbers)])


if __name__ == "__main__":
    unittest.main()
