"""Steps of calls, what is left of them, and houses that are opened ([51] to [53])."""

import unittest

from helper import ODD, Refusing, put_row, seen, striped, what_of
from twicemany.banks import Bank
from twicemany.bookreader import read_book
from twicemany.calls import call
from twicemany.dealing import House, rest, steps
from twicemany.errors import (BadArgs, BadBook, BadDeal, BadKeep, BadPlace, BadSchema, BadWorth, BadWorths, Blind,
                              Broken, Needed, NoDeal,
                              Spoilt, TooLong, Unwhole)
from twicemany.finder import table_at
from twicemany.houses import do_steps, lay, worths_of
from twicemany.racks import Rack

SCHEMA = ((("ann", 101), ("bob", 101)), (("shop", 101),))
A, B, N = ("arg", "a"), ("arg", "b"), ("arg", "n")
PAY = ("pay", (("a", "rec"), ("b", "rec"), ("n", "num")), (
    ("need", ("not", ("less", ("worth", A), N)), "short"),
    ("set", A, ("sub", ("worth", A), N)),
    ("set", B, ("add", ("worth", B), N))))
BOOK = (SCHEMA, (PAY,), ())
LONG = ((0, ((1, 1),)), (0, ((2, 0),)), (0, ((3, 2),)), (0, ((4, 3),)), (0, ((0, 2),)), (1, ((0, 2), (1, 2))),
        (0, ((0, 3),)),
        (2, ((0, 3), (1, 3))), (0, ((0, 4),)), (1, ((0, 0),)), (2, ((0, 0),)), (0, ((0, 0),)))
TEXTS = (
    "row ann 101, bob 101, cat 101; row shop 101; row till 300, box 50",
    "deal pay(rec a, rec b, num n) { need not a < n else short; a := a - n; b := b + n }",
    "deal same(rec a) { a := a; shop := shop }",
    "deal three() { ann := 1; bob := 2; cat := 3 }",
    "deal back(rec a) { a := a + 5; shop := a; a := a - 5; shop := shop - a }",
    "deal grow(rec a, num n) { a := a + n; if a < 50 { till := a; if n = 7 { box := till } } else { shop := a };"
    " need not till = 13 else odd; box := box + 1; a := till }",
    "deal two(num n) { pay(ann, bob, n); pay(bob, shop, n - 1) }",
    "deal none() { need ann = ann else a; if ann = 0 {} else { need bob < 200 else b } }",
    "deal start(num n) { ann := n; shop := n + 1 }",
    "keep shop < 100",
)


def shape_of(n=5, k=2, manner=0, wide=1, e=0):
    """A shape that stands."""
    p, c, number = {(5, 2, 0, 0): (1009, 4, 2), (5, 2, 1, 0): (1009, 3, 0), (5, 2, 0, 1): (1000003, 5, 0),
                    (3, 2, 0, 1): (1009, 5, 4),
                    (3, 3, 1, 0): (1009, 5, 0)}[n, k, manner, e]
    return p, wide, n, k, e, manner, table_at(p, n, c, number)


def bank_of(book=BOOK, worths=(5, 0, 0), rows=5, **more):
    bank = Bank(Rack(shape_of(**more), rows))
    do_steps(bank, lay(bank, book[0], worths))
    return bank


def read(bank=None):
    return read_book(bank_of() if bank is None else bank, TEXTS)


class Steps(Refusing):
    def test_the_examples(self):
        for manner in (0, 1):
            bank = bank_of(manner=manner)
            ahead = seen(bank.rack)
            self.assertEqual(steps(bank, BOOK, "pay", ("ann", "bob", 3)), ((1, ((1, 2), (2, 3))),))
            self.assertEqual(steps(bank, BOOK, "pay", ("ann", "shop", 3)), LONG)
            self.assertEqual(steps(bank, BOOK, "pay", ("ann", "shop", 3)), LONG)
            self.assertEqual(seen(bank.rack), ahead)

    def test_a_call_that_changes_nothing(self):
        book = read()
        bank = bank_of(book, (5, 6, 7, 8, 9, 10))
        for deal, args in (("pay", ("ann", "ann", 5)), ("pay", ("ann", "shop", 0)), ("same", ("till",)),
                           ("none", ())):
            self.assertEqual(steps(bank, book, deal, args), ())
        bank = bank_of(book, (1, 2, 3, 8, 9, 10))
        self.assertEqual(steps(bank, book, "three", ()), ())

    def test_one_step(self):
        book = read()
        bank = bank_of(book, (5, 6, 7, 8, 9, 10))
        self.assertEqual(steps(bank, book, "pay", ("cat", "ann", 2)), ((1, ((1, 7), (3, 5))),))
        self.assertEqual(steps(bank, book, "pay", ("till", "box", 9)), ((3, ((1, 0), (2, 19))),))
        # What it sets in between lies in two rows, but one record alone has another number behind.
        self.assertEqual(steps(bank, book, "back", ("bob",)), ((2, ((1, 5),)),))
        bank = bank_of(book, (1, 6, 7, 8, 9, 10))
        self.assertEqual(steps(bank, book, "three", ()), ((1, ((2, 2), (3, 3))),))

    def test_more_records_of_one_row_than_one_transaction_takes(self):
        book = read()
        bank = bank_of(book, (5, 6, 7, 8, 9, 10))
        self.assertEqual(steps(bank, book, "three", ()), (
            (0, ((1, 3),)), (0, ((0, 1),)), (1, ((0, 1), (1, 1))), (0, ((0, 2),)), (1, ((0, 2), (2, 2))),
            (0, ((0, 3),)),
            (1, ((0, 3), (3, 3))), (0, ((0, 4),)), (1, ((0, 0),)), (0, ((0, 0),))))
        # A greater most takes three.
        bank = Bank(Rack((1009, 1, 8, 3, 0, 0, table_at(1009, 8, 2, 0)), 4))
        self.assertEqual(steps(bank, book, "three", ()), ((1, ((1, 1), (2, 2), (3, 3))),))

    def test_long_calls(self):
        book = read()
        bank = bank_of(book, (5, 6, 7, 8, 9, 10))
        # Bob is set twice, and read behind it; row 3 of the code is the need of the second call.
        self.assertEqual(steps(bank, book, "two", (4,)), (
            (0, ((1, 6),)), (0, ((2, 4),)), (0, ((0, 2),)), (1, ((0, 2), (1, 1))), (0, ((0, 3),)),
            (1, ((0, 3), (2, 10))), (0, ((0, 5),)),
            (1, ((0, 5), (2, 7))), (0, ((0, 6),)), (2, ((0, 6), (1, 11))), (0, ((0, 7),)), (1, ((0, 0),)),
            (2, ((0, 0),)), (0, ((0, 0),))))
        # The code of grow: cat 0, branch 1, till 2, branch 3, box 4, jumps 5 and 6, shop 7, need 8, box 9, cat 10.
        self.assertEqual(steps(bank, book, "grow", ("cat", 7)), (
            (0, ((1, 5),)), (0, ((2, 2),)), (0, ((3, 7),)), (0, ((0, 1),)),
            (1, ((0, 1), (3, 14))), (0, ((0, 3),)), (3, ((0, 3), (1, 14))), (0, ((0, 5),)), (3, ((0, 5), (2, 14))),
            (0, ((0, 10),)),
            (3, ((0, 10), (2, 15))), (0, ((0, 11),)), (1, ((0, 11), (3, 14))), (0, ((0, 12),)),
            (1, ((0, 0),)), (3, ((0, 0),)), (0, ((0, 0),))))
        self.assertEqual(steps(bank, book, "grow", ("cat", 60)), (
            (0, ((1, 5),)), (0, ((2, 2),)), (0, ((3, 60),)), (0, ((0, 1),)),
            (1, ((0, 1), (3, 67))), (0, ((0, 8),)), (2, ((0, 8), (1, 67))), (0, ((0, 10),)),
            (3, ((0, 10), (2, 11))), (0, ((0, 11),)), (1, ((0, 11), (3, 9))), (0, ((0, 12),)),
            (1, ((0, 0),)), (2, ((0, 0),)), (3, ((0, 0),)), (0, ((0, 0),))))

    def test_whatever_lies_in_the_other_cells(self):
        bank = bank_of()
        do_steps(bank, ((0, ((0, 77), (1, 1))), (0, ((2, 0), (3, 9))), (1, ((0, 2),)), (2, ((0, 8),))))
        self.assertEqual(steps(bank, BOOK, "pay", ("ann", "shop", 3)), LONG)

    def test_steps_that_are_done(self):
        book = read()
        for manner in (0, 1):
            for wide in (1, 2):
                for deal, args in (("two", (4,)), ("grow", ("cat", 7)), ("grow", ("bob", 60)), ("three", ()),
                                   ("pay", ("box", "ann", 10)), ("start", (3,))):
                    bank = bank_of(book, (5, 6, 7, 8, 9, 10), manner=manner, wide=wide)
                    behind = call(bank, book, (5, 6, 7, 8, 9, 10), deal, args)
                    do_steps(bank, steps(bank, book, deal, args))
                    self.assertEqual(worths_of(bank, book[0]), behind)
                    self.assertEqual([bank.row(row)[0] for row in range(5)], [(0,) * wide] * 5)
                    self.assertEqual(rest(bank, book), ())

    def test_what_is_refused(self):
        bank = bank_of()
        low = ("low", (("n", "num"),), (("set", ("rec", "ann"), ("add", N, N)),))
        five = ("add", N, ("add", N, ("add", N, ("add", N, N))))
        long = ("long", (("n", "num"),), (("call", "low", (five,)),))
        for book, error, what in ((None, BadBook, -1), (((), (), ()), BadSchema, -1),
                                  ((SCHEMA, (PAY, None), ()), BadDeal, (1, (-1,))),
                                  ((SCHEMA, (low, long), ()), TooLong, 1), ((SCHEMA, (PAY,), (None,)), BadKeep, 0)):
            self.assertEqual(self.refused(bank.rack, error, steps, bank, book, None, None), what)
            self.assertEqual(self.refused(bank.rack, error, rest, bank, book), what)
            self.assertEqual(self.refused(bank.rack, error, House, bank, book), what)
        for name in ODD + ("none",):
            self.assertEqual(self.refused(bank.rack, NoDeal, steps, bank, BOOK, name, None), name)
        for args, what in ((None, -1), (("ann", "bob"), -1), (("ann", "cat", 3), 1), (("ann", "bob", 1009), 2)):
            self.assertEqual(self.refused(bank.rack, BadArgs, steps, bank, BOOK, "pay", args), what)
        self.assertEqual(self.refused(bank.rack, Needed, steps, bank, BOOK, "pay", ("ann", "bob", 6)), "short")
        keeps = (SCHEMA, (PAY,), (("eq", ("num", 1), ("num", 1)), ("less", ("worth", ("rec", "shop")), ("num", 3))))
        self.assertEqual(self.refused(bank.rack, Broken, steps, bank, keeps, "pay", ("ann", "shop", 3)), 1)
        do_steps(bank, lay(bank, SCHEMA, (5, 100, 0)))
        self.assertEqual(self.refused(bank.rack, BadWorth, steps, bank, BOOK, "pay", ("ann", "bob", 3)), "bob")

    def test_rows_that_are_not_whole(self):
        bank = bank_of()
        do_steps(bank, ((2, ((1, 101),)),))
        self.assertEqual(self.refused(bank.rack, BadWorths, steps, bank, BOOK, None, None), 2)
        for row, what in ((4, 2), (2, 2), (1, 1)):
            bank.rack.put(row, 0, (1,))
            error = BadWorths if row == 4 else Unwhole
            self.assertEqual(self.refused(bank.rack, error, steps, bank, BOOK, "none", None), what)
        # Row 0 is not looked at.
        bank = bank_of()
        bank.rack.put(0, 0, (1,))
        self.assertEqual(len(steps(bank, BOOK, "pay", ("ann", "shop", 3))), 12)


class Rest(Refusing):
    def test_the_example(self):
        bank = bank_of()
        do_steps(bank, LONG[:8])
        self.assertEqual(rest(bank, BOOK), LONG[8:])

    def test_behind_each_step(self):
        book = read()
        for manner in (0, 1):
            for deal, args in (("two", (4,)), ("grow", ("cat", 7)), ("grow", ("bob", 60)), ("three", ()),
                               ("pay", ("box", "ann", 10)), ("start", (3,))):
                told = steps(bank_of(book, (5, 6, 7, 8, 9, 10)), book, deal, args)
                first = [row for row, _ in enumerate(told) if told[row][1][0][0] == 0][0]
                for many in range(len(told) + 1):
                    bank = bank_of(book, (5, 6, 7, 8, 9, 10), manner=manner)
                    do_steps(bank, told[:many])
                    ahead = seen(bank.rack)
                    self.assertEqual(rest(bank, book), told[many:] if many > first else ())
                    self.assertEqual(seen(bank.rack), ahead)

    def test_told_by_what_lies(self):
        """PLACE, MARKs and worths as no call has left them, but could be."""
        book = read()
        for place, marks, cat, told in (
            # Row 9 is a set of box, row 10 of the arg, cat; needs are not asked.
            (10, (0, 0, 0), 3, ((3, ((0, 10), (2, 11))), (0, ((0, 11),)), (1, ((0, 11), (3, 9))), (0, ((0, 12),)),
                                (1, ((0, 0),)), (3, ((0, 0),)), (0, ((0, 0),)))),
            (10, (1, 0, 9), 3, ((3, ((0, 10), (2, 11))), (0, ((0, 11),)), (1, ((0, 11), (3, 9))), (0, ((0, 12),)),
                                (1, ((0, 0),)), (3, ((0, 0),)), (0, ((0, 0),)))),
            (10, (0, 5, 10), 3, ((0, ((0, 11),)), (1, ((0, 11), (3, 9))), (0, ((0, 12),)),
                                 (1, ((0, 0),)), (2, ((0, 0),)), (3, ((0, 0),)), (0, ((0, 0),)))),
            (11, (11, 0, 0), 3, ((0, ((0, 12),)), (1, ((0, 0),)), (0, ((0, 0),)))),
            (11, (10, 11, 11), 3,
             ((1, ((0, 11), (3, 9))), (0, ((0, 12),)), (1, ((0, 0),)), (2, ((0, 0),)), (3, ((0, 0),)),
              (0, ((0, 0),)))),
            (12, (0, 0, 0), 3, ((0, ((0, 0),)),)),
            (12, (4, 0, 1008), 3, ((1, ((0, 0),)), (3, ((0, 0),)), (0, ((0, 0),)))),
            # Row 0 sets cat; its number tells which branch comes.
            (1, (1, 0, 0), 48,
             ((0, ((0, 3),)), (3, ((0, 3), (1, 48))), (0, ((0, 5),)), (3, ((0, 5), (2, 48))), (0, ((0, 10),)))),
            (1, (1, 0, 0), 50,
             ((0, ((0, 8),)), (2, ((0, 8), (1, 50))), (0, ((0, 10),)), (3, ((0, 10), (2, 11))), (0, ((0, 11),)))),
            (1, (0, 0, 0), 43,
             ((1, ((0, 1), (3, 50))), (0, ((0, 8),)), (2, ((0, 8), (1, 50))), (0, ((0, 10),)),
              (3, ((0, 10), (2, 11))))),
            # Behind this set no other one comes but in the branch; till would be 13, which the need that is not asked refuses.
            (1, (0, 0, 0), 6,
             ((1, ((0, 1), (3, 13))), (0, ((0, 3),)), (3, ((0, 3), (1, 13))), (0, ((0, 5),)),
              (3, ((0, 5), (2, 13))))),
        ):
            bank = bank_of(book, (5, 6, cat, 8, 9, 10))
            do_steps(bank,
                     [(0, ((0, place), (1, 5))), (0, ((2, 2), (3, 7)))] + [(at + 1, ((0, mark),)) for at,
                                                                           mark in enumerate(marks)])
            found = rest(bank, book)
            self.assertEqual(found if place > 9 else found[:5], told, (place, marks, cat))

    def test_place_0(self):
        bank = bank_of()
        do_steps(bank, ((0, ((1, 999), (2, 999))), (1, ((0, 3), (1, 700)))))
        self.assertEqual(rest(bank, BOOK), ())

    def test_only_the_first_number_counts(self):
        bank = bank_of(wide=3)
        do_steps(bank, LONG[:6])
        told = rest(bank, BOOK)
        for row in (0, 1, 2):
            cells = tuple((cell[0], 5 + at, 7) for at, cell in enumerate(bank.row(row)))
            put_row(bank.rack, row, cells)
        self.assertEqual(rest(bank, BOOK), told)
        put_row(bank.rack, 0, ((0, 2, 0),) + bank.row(0)[1:])
        self.assertEqual(rest(bank, BOOK), ())

    def wrong(self, place, book, cells, ahead=()):
        bank = bank_of(book, (5, 6, 7, 8, 9, 10))
        do_steps(bank, tuple(ahead) + tuple((0, ((cell, number),)) for cell, number in enumerate((place,) + cells)))
        self.assertEqual(self.refused(bank.rack, BadPlace, rest, bank, book), place)
        self.assertEqual(self.refused(bank.rack, BadPlace, House, bank, book), place)

    def test_what_no_call_can_have_written(self):
        book = read()
        for deal in (0, 9, 10, 1008):
            self.wrong(1, book, (deal, 0, 0, 0))
        for arg in (6, 7, 1008):
            self.wrong(1, book, (5, arg, 7))
            self.wrong(12, book, (5, arg, 7))
            self.wrong(2, book, (1, 0, arg, 1))
        # No row, a branch, a jump, a need.
        for place in (13, 14, 200, 1008, 2, 4, 6, 7, 9):
            self.wrong(place, book, (5, 2, 7))
        self.wrong(1, book, (1, 0, 1, 1))
        self.wrong(1, (book[0], (), ()), (1,))

    def test_numbers_that_are_none_of_their_record(self):
        book = read()
        self.wrong(2, book, (1, 0, 1, 6))
        self.wrong(3, book, (1, 0, 1, 95))
        # Not at this set, but at one behind it: box would be 60.
        self.wrong(1, book, (5, 2, 7), [(3, ((2, 49),)), (1, ((3, 50),))])
        # With the MARK the set itself is done already.
        bank = bank_of(book, (5, 6, 7, 8, 9, 10))
        do_steps(bank,
                 tuple((0, ((cell, number),)) for cell, number in enumerate((3, 1, 0, 1, 95))) + ((1, ((0, 3),)),))
        self.assertEqual(rest(bank, book), ((0, ((0, 4),)), (1, ((0, 0),)), (0, ((0, 0),))))

    def test_records_are_read_as_they_lie(self):
        # Ann has more than her size lets her, which is only read.
        bank = bank_of()
        do_steps(bank, ((1, ((1, 150),)), (0, ((1, 1), (2, 0))), (0, ((3, 2), (4, 99))), (0, ((0, 2),))))
        self.assertEqual(rest(bank, BOOK)[:4],
                         ((1, ((0, 2), (1, 51))), (0, ((0, 3),)), (2, ((0, 3), (1, 99))), (0, ((0, 4),))))
        self.assertEqual(len(rest(bank, BOOK)), 7)

    def test_rows_that_are_not_whole(self):
        bank = bank_of()
        do_steps(bank, ((0, ((0, 999),)),))
        self.assertEqual(self.refused(bank.rack, BadPlace, rest, bank, BOOK), 999)
        bank.rack.put(3, 0, (1,))
        bank.rack.put(4, 0, (1,))
        self.assertEqual(self.refused(bank.rack, BadPlace, rest, bank, BOOK), 999)
        for row in (2, 1, 0):
            bank.rack.put(row, 0, (1,))
            self.assertEqual(self.refused(bank.rack, Unwhole, rest, bank, BOOK), row)
        bank = bank_of()
        bank.rack.put(2, 0, (1,))
        self.assertEqual(self.refused(bank.rack, Unwhole, rest, bank, BOOK), 2)


class Houses(Refusing):
    def test_a_bank_at_rest(self):
        bank = bank_of()
        ahead = seen(bank.rack)
        house = House(bank, BOOK)
        self.assertIs(house.bank, bank)
        self.assertIs(house.book, BOOK)
        self.assertEqual(seen(bank.rack), ahead)

    def test_it_does_what_is_left(self):
        for many in range(len(LONG) + 1):
            for manner in (0, 1):
                bank = bank_of(manner=manner)
                do_steps(bank, LONG[:many])
                House(bank, BOOK)
                self.assertEqual(worths_of(bank, SCHEMA), (5, 0, 0) if many < 5 else (2, 0, 3))
                self.assertEqual(rest(bank, BOOK), ())
                self.assertEqual([bank.row(row)[0] for row in range(5)], [(0,)] * 5)

    def test_torn_rows_are_mended(self):
        for many in range(len(LONG)):
            for came in ((), (0,), (1, 2), (0, 1, 2, 3), (0, 1, 2, 3, 4)):
                bank = bank_of()
                do_steps(bank, LONG[:many])
                row, changes = LONG[many]
                told = bank.changed(row, tuple((cell, (number,)) for cell, number in changes))
                if told == () or came and came[-1] >= len(told[0]):
                    continue
                bank.stop(told, 0, came)
                House(bank, BOOK)
                self.assertIn(worths_of(bank, SCHEMA),
                              ((5, 0, 0), (2, 0, 3)) if many == 4 else ((5, 0, 0) if many < 4 else (2, 0, 3),))
                for row in range(5):
                    self.assertEqual(bank.rack.left(row), striped(bank.rack.shape, bank.row(row)))

    def test_rows_without_records_are_mended(self):
        bank = bank_of()
        ahead = seen(bank.rack)
        bank.rack.put(4, 3, (1,))
        House(bank, BOOK)
        self.assertEqual(seen(bank.rack), ahead)

    def test_rest_is_told_of_the_rows_as_they_will_be_mended(self):
        # The write of PLACE is stopped: most of its shelves, or the fewest, came.
        for came, told in (((0, 1, 2), (2, 0, 3)), ((0,), (5, 0, 0))):
            bank = bank_of()
            do_steps(bank, LONG[:4])
            bank.stop(bank.changed(0, ((0, (2,)),)), 0, came)
            House(bank, BOOK)
            self.assertEqual(worths_of(bank, SCHEMA), told)

    def test_it_raises_ahead_of_all_writes(self):
        bank = bank_of()
        do_steps(bank, LONG[:4])
        do_steps(bank, ((0, ((2, 3),)),))
        # PLACE is torn but will be 2, so that the arg, no record's, counts; row 4 is torn too.
        bank.stop(bank.changed(0, ((0, (2,)),)), 0, (0, 1, 2))
        bank.rack.put(4, 3, (1,))
        self.assertEqual(self.refused(bank.rack, BadPlace, House, bank, BOOK), 2)
        bank.rack.put(0, 4, (7,))
        bank.rack.put(0, 5, (9,))
        bank.rack.put(0, 6, (11,))
        self.assertEqual(self.refused(bank.rack, Spoilt, House, bank, BOOK), 0)
        bank = bank_of()
        bank.rack.put(4, 3, (1,))
        bank.rack.put(1, 3, (1,))
        for cell in (0, 1, 2, 3):
            bank.rack.put(3, 4 + cell, (7 + 2 * cell,))
        self.assertEqual(self.refused(bank.rack, Spoilt, House, bank, BOOK), 3)
        self.assertEqual(self.refused(bank.rack, BadBook, House, bank, None), -1)

    def test_blind(self):
        bank = Bank(Rack((257, 1, 3, 2, 1, 0, ((1, 0, 0),)), 3))
        bank.rack.lose(2)
        book = ((("ann", 9),),), (), ()
        self.assertEqual(self.refused(bank.rack, Blind, House, bank, book), (2,))
        self.assertEqual(self.refused(bank.rack, Blind, rest, bank, book), (2,))

    def test_with_shelves_lost(self):
        for many in range(len(LONG)):
            for shelf in (0, 5, 7):
                bank = bank_of(e=1)
                do_steps(bank, LONG[:many])
                bank.rack.lose(shelf)
                House(bank, BOOK)
                self.assertEqual(worths_of(bank, SCHEMA), (5, 0, 0) if many < 5 else (2, 0, 3))
                bank.rack.replace(shelf)
                House(bank, BOOK)
                bank.rack.trust()
                self.assertEqual(worths_of(bank, SCHEMA), (5, 0, 0) if many < 5 else (2, 0, 3))

    def test_a_call_of_a_deal_without_args_and_one_with_all(self):
        book = read()
        bank = bank_of(book, (5, 6, 7, 8, 9, 10))
        for deal, args, worths in (("three", (), (1, 2, 3, 8, 9, 10)),
                                   ("pay", ("box", "cat", 9), (1, 2, 12, 8, 9, 1))):
            told = steps(bank, book, deal, args)
            do_steps(bank, told[:len(told) - 7])
            House(bank, book)
            self.assertEqual(worths_of(bank, book[0]), worths)

    def test_what_of_is_the_number_of_place(self):
        bank = bank_of()
        do_steps(bank, ((0, ((0, 5), (1, 1))),))
        self.assertEqual(what_of(self, BadPlace, House, bank, BOOK), 5)


if __name__ == "__main__":
    unittest.main()
