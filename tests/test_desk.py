"""The desk: calls of several hands, undo and redo, questions, and rows of texts ([56] to [58], [70] to [72])."""

import unittest

from helper import ODD, Draw, Refusing, seen, what_of
from test_dealing import bank_of
from twicemany.banks import Bank
from twicemany.bookreader import read_book
from twicemany.calls import call
from twicemany.dealing import House, rest
from twicemany.desk import Desk
from twicemany.errors import (BadArgs, BadHand, BadQuestion, BadWorth, BadWorths, Broken, Changed, Needed, NoDeal,
                              NothingToRedo,
                              NothingToUndo, Refused, TooWide, Unwhole)
from twicemany.houses import do_steps
from twicemany.racks import Rack

PAY = "deal pay(rec a, rec b, num n) { need not [a < n] else short; a := a - n; b := b + n }"
ROWS = ("row ann 100, bob 100; row shop 100", PAY, "keep not [shop = 3]")
TEXTS = ("row ann 100, bob 100, cat 100; row shop 100", PAY, "deal put(rec a, num n) { a := n }",
         "deal three(num n) { ann := n; bob := n; cat := n }", "deal none() {}", "keep shop < 90")
BAD_HANDS = ODD[:1] + ODD[1:3] + ("", "Tom", "tom!", "if", "1tom", "abcdefghijklm", 0, -1, (), ("tom",), 10 ** 900)


def desk_of(texts=TEXTS, worths=(5, 6, 7, 8), **more):
    bank = bank_of(worths=(5, 0, 0), **more)
    book = read_book(bank, texts)
    bank = bank_of(book, worths, **more)
    return Desk(House(bank, book))


class Desks(Refusing):
    def setUp(self):
        self.desk = desk_of()
        self.rack = self.desk.house.bank.rack

    def no(self, error, ask, *args):
        return self.refused(self.rack, error, ask, *args)

    def put(self, hand, name, number):
        return self.desk.do(hand, "put", (name, number))


class Doing(Desks):
    def test_calls(self):
        for manner in (0, 1):
            desk = desk_of(manner=manner)
            self.assertIs(desk.do("tom", "pay", ("ann", "bob", 2)), True)
            self.assertEqual(desk.worths(), (3, 8, 7, 8))
            self.assertIs(desk.do("eve", "pay", ("bob", "shop", 8)), True)
            self.assertEqual(desk.worths(), (3, 0, 7, 16))
            self.assertEqual(rest(desk.house.bank, desk.house.book), ())

    def test_calls_that_change_nothing(self):
        ahead = seen(self.rack)
        for deal, args in (("none", ()), ("pay", ("ann", "ann", 5)), ("put", ("cat", 7)),
                           ("pay", ("ann", "shop", 0))):
            self.assertIs(self.desk.do("tom", deal, args), False)
        self.assertEqual(seen(self.rack), ahead)

    def test_what_is_refused(self):
        for hand in BAD_HANDS:
            self.assertEqual(self.no(BadHand, self.desk.do, hand, None, None), hand)
        for name in ODD:
            self.assertEqual(self.no(NoDeal, self.desk.do, "tom", name, None), name)
        self.assertEqual(self.no(BadArgs, self.desk.do, "tom", "pay", ("ann", "bob")), -1)
        self.assertEqual(self.no(BadArgs, self.desk.do, "tom", "pay", ("ann", "bob", 1009)), 2)
        self.assertEqual(self.no(Needed, self.desk.do, "tom", "pay", ("ann", "bob", 6)), "short")
        self.assertEqual(self.no(BadWorth, self.desk.do, "tom", "put", ("ann", 100)), "ann")
        self.assertEqual(self.no(Broken, self.desk.do, "tom", "put", ("shop", 90)), 0)
        do_steps(self.desk.house.bank, ((2, ((1, 100),)),))
        self.assertEqual(self.no(BadWorths, self.desk.do, "tom", "none", ()), 3)
        self.assertEqual(self.no(BadWorths, self.desk.ask, ("sum", (0,))), 3)
        self.rack.put(1, 0, (1,))
        self.assertEqual(self.no(Unwhole, self.desk.do, "tom", "none", ()), 1)
        self.assertEqual(self.no(Unwhole, self.desk.worths), 1)

    def test_asking(self):
        self.assertEqual(self.desk.worths(), (5, 6, 7, 8))
        for question, told in ((("sum", (0, 1)), 26), (("least", (0,)), 5), (("most", (1,)), 8),
                               (("above", 6, (0, 1)), 2), (("keeps",), ())):
            self.assertEqual(self.desk.ask(question), told)
        for question in ODD + (("sum", (2,)), ("sum", (1, 0))):
            self.assertEqual(self.no(BadQuestion, self.desk.ask, question), -1)


class Undoing(Desks):
    def test_undo_and_redo(self):
        for manner in (0, 1):
            desk = desk_of(manner=manner)
            states = [desk.worths()]
            for deal, args in (("pay", ("ann", "bob", 2)), ("put", ("shop", 50)), ("pay", ("cat", "ann", 7)),
                               ("put", ("cat", 1))):
                desk.do("tom", deal, args)
                states.append(desk.worths())
            for worths in states[-2::-1]:
                self.assertIsNone(desk.undo("tom"))
                self.assertEqual(desk.worths(), worths)
            self.assertEqual(what_of(self, NothingToUndo, desk.undo, "tom"), "tom")
            for worths in states[1:]:
                self.assertIsNone(desk.redo("tom"))
                self.assertEqual(desk.worths(), worths)
            self.assertEqual(what_of(self, NothingToRedo, desk.redo, "tom"), "tom")

    def test_it_is_done_in_one_step(self):
        self.desk.do("tom", "pay", ("ann", "cat", 2))
        ahead = [self.desk.house.bank.row(row) for row in range(5)]
        self.desk.undo("tom")
        behind = [self.desk.house.bank.row(row) for row in range(5)]
        self.assertEqual([row for row in range(5) if ahead[row] != behind[row]], [1])
        self.assertEqual(behind[1], ((0,), (5,), (6,), (7,), (0,)))

    def test_each_hand_has_its_own(self):
        self.put("tom", "ann", 20)
        self.put("eve", "bob", 30)
        self.assertEqual(self.no(NothingToUndo, self.desk.undo, "joe"), "joe")
        self.desk.undo("tom")
        self.assertEqual(self.desk.worths(), (5, 30, 7, 8))
        self.assertEqual(self.no(NothingToUndo, self.desk.undo, "tom"), "tom")
        self.assertEqual(self.no(NothingToRedo, self.desk.redo, "eve"), "eve")
        self.desk.undo("eve")
        self.desk.redo("tom")
        self.assertEqual(self.desk.worths(), (20, 6, 7, 8))

    def test_an_undo_hindered_by_another_hand(self):
        self.desk.do("tom", "pay", ("cat", "ann", 2))
        self.put("eve", "cat", 9)
        self.assertEqual(self.no(Changed, self.desk.undo, "tom"), "cat")
        self.put("eve", "ann", 9)
        self.assertEqual(self.no(Changed, self.desk.undo, "tom"), "ann")
        self.put("eve", "ann", 7)
        self.put("eve", "bob", 55)
        self.put("eve", "cat", 5)
        # Each of its records has the new number again, whoever gave it.
        self.desk.undo("tom")
        self.assertEqual(self.desk.worths(), (5, 55, 7, 8))

    def test_a_redo_hindered_by_another_hand(self):
        self.desk.do("tom", "pay", ("cat", "ann", 2))
        self.desk.undo("tom")
        self.put("eve", "cat", 5)
        self.assertEqual(self.no(Changed, self.desk.redo, "tom"), "cat")
        self.put("eve", "ann", 1)
        self.assertEqual(self.no(Changed, self.desk.redo, "tom"), "ann")
        self.desk.undo("eve")
        self.desk.undo("eve")
        self.desk.redo("tom")
        self.assertEqual(self.desk.worths(), (7, 6, 5, 8))

    def test_a_new_call_forgets_what_could_be_redone(self):
        self.put("tom", "ann", 20)
        self.put("tom", "bob", 30)
        self.desk.undo("tom")
        self.put("eve", "cat", 1)
        self.desk.undo("eve")
        self.desk.do("tom", "none", ())
        with self.assertRaises(BadWorth):
            self.put("tom", "ann", 100)
        # A call that changed nothing, and one that is refused, leave all as it is.
        self.desk.redo("tom")
        self.desk.undo("tom")
        self.put("tom", "ann", 40)
        self.assertEqual(self.no(NothingToRedo, self.desk.redo, "tom"), "tom")
        self.desk.redo("eve")
        for worths in ((20, 6, 1, 8), (5, 6, 1, 8)):
            self.desk.undo("tom")
            self.assertEqual(self.desk.worths(), worths)
        self.assertEqual(self.no(NothingToUndo, self.desk.undo, "tom"), "tom")

    def test_50_and_51_kept_calls(self):
        for many in (50, 51, 60):
            desk = desk_of()
            for number in range(many):
                desk.do("tom", "put", ("ann", 10 + number))
                if number % 9 == 0:
                    desk.do("eve", "put", ("bob", 10 + number))
            for left in range(50):
                desk.undo("tom")
                self.assertEqual(desk.worths()[0], 10 + many - left - 2 if many - left > 1 else 5)
            self.assertEqual(what_of(self, NothingToUndo, desk.undo, "tom"), "tom")
            desk.undo("eve")
            for left in range(50):
                desk.redo("tom")
            self.assertEqual(desk.worths()[0], 10 + many - 1)
            self.assertEqual(what_of(self, NothingToRedo, desk.redo, "tom"), "tom")

    def test_calls_that_cannot_be_one_step(self):
        self.desk.do("tom", "pay", ("ann", "shop", 3))
        self.assertEqual(self.no(TooWide, self.desk.undo, "tom"), "tom")
        self.put("eve", "shop", 1)
        self.assertEqual(self.no(Changed, self.desk.undo, "tom"), "shop")
        desk = desk_of()
        desk.do("tom", "three", (3,))
        self.assertEqual(what_of(self, TooWide, desk.undo, "tom"), "tom")
        # Three records that get a number, but two of them another one than they had.
        desk = desk_of(worths=(5, 6, 9, 8))
        desk.do("tom", "three", (9,))
        desk.undo("tom")
        self.assertEqual(desk.worths(), (5, 6, 9, 8))

    def test_rows_of_one_record_and_of_two(self):
        desk = desk_of(("row x 9; row y 9, z 9", PAY), (5, 6, 7))
        rack = desk.house.bank.rack
        desk.do("tom", "pay", ("y", "z", 1))
        desk.undo("tom")
        self.assertEqual(desk.worths(), (5, 6, 7))
        desk.do("tom", "pay", ("x", "y", 1))
        self.assertEqual(self.refused(rack, TooWide, desk.undo, "tom"), "tom")

    def test_a_greater_most(self):
        desk = desk_of()
        rack = desk.house.bank.rack
        shape = (1009, 1, 5, 3, 0, 0, rack.shape[6] + ((3, 1, 4, 1, 5),))
        bank = Bank(Rack(shape, 5))
        desk = Desk(House(bank, desk.house.book))
        desk.do("tom", "three", (9,))
        desk.undo("tom")
        desk.redo("tom")
        self.assertEqual(desk.worths(), (9, 9, 9, 0))

    def test_a_keep_that_would_not_hold(self):
        texts = TEXTS[:-1] + ("keep ann + shop < 100", "keep ann < bob or cat = 7")
        desk = desk_of(texts, (5, 60, 7, 90))
        desk.do("tom", "put", ("shop", 20))
        desk.do("eve", "put", ("ann", 50))
        self.assertEqual(self.refused(desk.house.bank.rack, Broken, desk.undo, "tom"), 0)
        desk.undo("eve")
        desk.undo("tom")
        desk.do("eve", "put", ("ann", 9))
        self.assertEqual(desk.worths(), (9, 60, 7, 90))
        desk.do("joe", "put", ("shop", 30))
        desk.do("joe", "put", ("ann", 65))
        with self.assertRaises(Broken):
            desk.do("joe", "put", ("cat", 8))
        desk.undo("joe")
        desk.do("joe", "put", ("cat", 8))
        self.assertEqual(self.refused(desk.house.bank.rack, NothingToRedo, desk.redo, "joe"), "joe")

    def test_a_redo_that_a_keep_hinders(self):
        keeps = ("keep ann < 70", "keep ann + shop < 100", "keep not [ann = 60 and shop = 40]")
        desk = desk_of(TEXTS[:-1] + keeps, (5, 6, 7, 8))
        desk.do("tom", "put", ("ann", 60))
        desk.undo("tom")
        desk.do("eve", "put", ("shop", 40))
        self.assertEqual(self.refused(desk.house.bank.rack, Broken, desk.redo, "tom"), 1)
        desk.do("eve", "put", ("shop", 39))
        desk.redo("tom")
        self.assertEqual(desk.worths(), (60, 6, 7, 39))

    def test_which_error_comes_first(self):
        for hand in BAD_HANDS:
            self.assertEqual(self.no(BadHand, self.desk.undo, hand), hand)
            self.assertEqual(self.no(BadHand, self.desk.redo, hand), hand)
        # More than one row, and a keep that does not hold behind: TooWide; with another number ahead: Changed.
        desk = desk_of(TEXTS[:-1] + ("keep shop < 9 or ann < 5",), (5, 6, 7, 8))
        desk.do("tom", "pay", ("ann", "shop", 3))
        do_steps(desk.house.bank, ((2, ((1, 8),)),))
        self.assertEqual(self.refused(desk.house.bank.rack, Changed, desk.undo, "tom"), "shop")
        do_steps(desk.house.bank, ((2, ((1, 11),)),))
        self.assertEqual(self.refused(desk.house.bank.rack, TooWide, desk.undo, "tom"), "tom")

    def test_a_desk_of_a_house_that_is_opened_anew(self):
        self.put("tom", "ann", 20)
        self.put("tom", "ann", 21)
        self.desk.undo("tom")
        again = Desk(House(self.desk.house.bank, self.desk.house.book))
        self.assertEqual(again.worths(), (20, 6, 7, 8))
        self.assertEqual(self.no(NothingToUndo, again.undo, "tom"), "tom")
        self.assertEqual(self.no(NothingToRedo, again.redo, "tom"), "tom")


class Rows(Desks):
    def test_the_examples(self):
        desk = desk_of(ROWS, (5, 0, 0))
        for row, answer in (
            ("tom does pay(ann, bob, 2)", "done"), ("show ann", "3"), ("audit sum 0", "5"),
            ("audit above 1 0, 1", "2"), ("audit keeps", "none"),
            ("tom does pay(ann, shop, 3)", "refused: Broken 0"),
            ("tom does pay(bob, ann, 9)", "refused: Needed short"),
            ("tom does pay(ann, ann, 1)", "nothing"), ("tom undo", "done"), ("show bob", "0"),
            ("tom undo", "refused: NothingToUndo tom"),
            ("tom does give(ann)", "refused: NoName 9"), ("audit sum 2", "refused: BadQuestion -1"),
            ("show", "refused: BadText 4"),
        ):
            self.assertEqual(desk.row(row), answer, row)

    def answers(self, *pairs):
        for row, answer in pairs:
            self.assertEqual(self.desk.row(row), answer, row)

    def test_calls(self):
        self.answers(("eve does put(shop, 89)", "done"), ("eve does put(shop,89)", "nothing"),
                     ("  eve   does put ( cat , 0 )  ", "done"),
                     ("eve does none()", "nothing"), ("eve does three(1)", "done"), ("show cat", "1"),
                     ("show shop", "89"),
                     ("eve undo", "refused: TooWide eve"), ("e9 does put(ann, 100)", "refused: BadWorth ann"),
                     ("e9 does put(ann, 9999999)", "refused: BadArgs 1"),
                     ("e9 does put(shop, 90)", "refused: Broken 0"))

    def test_undo_and_redo(self):
        self.answers(("tom redo", "refused: NothingToRedo tom"), ("tom does put(ann, 9)", "done"),
                     ("eve undo", "refused: NothingToUndo eve"),
                     ("tom undo", "done"), ("show ann", "5"), ("tom redo", "done"), ("show ann", "9"),
                     ("eve does put(ann, 8)", "done"),
                     ("tom undo", "refused: Changed ann"), ("tom undo tom", "refused: BadText 9"),
                     ("tom redo 1", "refused: BadText 9"))

    def test_audits(self):
        self.answers(("audit sum 0", "18"), ("audit sum 0, 1", "26"), ("audit least 0,1", "5"), ("audit most 0", "7"),
                     ("audit above 0 1", "1"),
                     ("audit above 6 0, 1", "2"), ("audit above 9999999 0", "0"), ("audit keeps", "none"),
                     ("audit sum 1, 0", "refused: BadQuestion -1"),
                     ("audit sum 0, 0", "refused: BadQuestion -1"), ("audit most 9999999", "refused: BadQuestion -1"),
                     ("audit sum", "refused: BadText 9"), ("audit sum ,", "refused: BadText 10"),
                     ("audit sum 0,", "refused: BadText 12"),
                     ("audit sum 0 1", "refused: BadText 12"), ("audit keeps 0", "refused: BadText 12"),
                     ("audit above 1", "refused: BadText 13"),
                     ("audit above 1, 0", "refused: BadText 13"), ("audit add 0", "refused: BadText 6"),
                     ("audit", "refused: BadText 5"),
                     ("audit sum ann", "refused: BadText 10"), ("audit sum 00", "refused: BadText 10"),
                     ("audit sum 12345678", "refused: BadText 10"))

    def test_keeps_that_do_not_hold(self):
        desk = desk_of(TEXTS + ("keep ann = 5", "keep bob = 6"))
        do_steps(desk.house.bank, ((1, ((1, 6), (2, 7))),))
        self.assertEqual(desk.row("audit keeps"), "1 2")
        do_steps(desk.house.bank, ((1, ((2, 6),)),))
        self.assertEqual(desk.row("audit keeps"), "1")

    def test_rows_that_are_wrong(self):
        for row, answer in (
            ("", "BadText 0"), ("   ", "BadText 3"), ("if does none()", "BadText 0"), ("9 undo", "BadText 0"),
            ("Tom undo", "BadText 0"), ("tom", "BadText 3"),
            ("tom does", "BadText 8"), ("tom undoes", "BadText 4"), ("tom do", "BadText 4"),
            ("tom show ann", "BadText 4"), ("show tom", "NoName 5"),
            ("show none", "NoName 5"), ("show ann bob", "BadText 9"), ("show 5", "BadText 5"),
            ("show if", "BadText 5"), ("tom does ann()", "NoName 9"),
            ("tom does if", "BadText 9"), ("tom does none", "BadText 13"), ("tom does none(", "BadText 14"),
            ("tom does none(1)", "BadText 14"),
            ("tom does none() ;", "BadText 16"), ("tom does put(ann, 1", "BadText 19"),
            ("tom does put(ann 1)", "BadText 17"),
            ("tom does put(joe, 1)", "NoName 13"), ("tom does put(put, 1)", "NoName 13"),
            ("tom does put(1, 1)", "BadText 13"),
            ("tom does put(ann, ann)", "BadText 18"), ("tom does put(ann, 1 + 1)", "BadText 20"),
            ("tom does put(ann, 01)", "BadText 18"),
            ("tom does put(ann, 12345678)", "BadText 18"), ("tom does put(ann, 1, 2)", "BadText 19"),
            ("tom does put(ann)", "BadText 16"),
            ("tom does put(ann, (1))", "BadText 18"), ("abcdefghijklm undo", "BadText 0"),
            ("tom undo\n", "BadText 8"), ("tom undo %", "BadText 9"),
            ("\ttom undo", "BadText 0"), ("tom undo \u00e9", "BadText 9"),
            ("show ann" + " " * 19993, "BadText 20000"), (5, "BadText -1"), (None, "BadText -1"),
            ((), "BadText -1"), (True, "BadText -1"), ("audit" + " " * 19995 + "sum", "BadText 20000"),
        ):
            ahead = seen(self.rack)
            self.assertEqual(self.desk.row(row), "refused: " + answer, row)
            self.assertEqual(seen(self.rack), ahead)
        self.assertEqual(self.desk.row("show ann" + " " * 19992), "5")

    def test_a_row_is_read_to_its_end_first(self):
        self.answers(("tom does put(ann, 50) x", "refused: BadText 22"), ("show ann", "5"),
                     ("nobody undo x", "refused: BadText 12"),
                     ("tom does put(ann, 100))", "refused: BadText 22"), ("audit sum 5 5", "refused: BadText 12"))

    def test_whatever_is_raised_is_told(self):
        self.rack.put(1, 0, (1,))
        for row in ("show ann", "audit keeps", "tom does none()", "audit sum 7"):
            self.assertEqual(self.desk.row(row), "refused: Unwhole 1")
        self.assertEqual(self.desk.row("tom undo"), "refused: NothingToUndo tom")


class Drawn(unittest.TestCase):
    def test_drawn_rows_against_plain_worths(self):
        """Rows of three hands, held against worths and lists of calls kept beside."""
        told = {}
        for seed in range(6):
            desk = desk_of(manner=seed % 2)
            plain, done, undone = (5, 6, 7, 8), {}, {}
            names = ("ann", "bob", "cat", "shop")
            draw = Draw(seed)
            for _ in range(150):
                hand = draw.of(("tom", "eve", "joe"))
                way = draw.of(("put", "pay", "three", "undo", "undo", "redo", "none"))
                behind, answer = self.plain_row(desk, plain, done, undone, hand, way)
                if way in ("undo", "redo"):
                    row = hand + " " + way
                else:
                    args = {"put": (draw.of(names), draw.below(12)),
                            "pay": (draw.of(names), draw.of(names), draw.below(5)),
                            "three": (draw.below(4),), "none": ()}[way]
                    row = f"{hand} does {way}({', '.join(str(arg) for arg in args)})"
                    try:
                        behind = call(desk.house.bank, desk.house.book, plain, way, args)
                        answer = "done" if behind != plain else "nothing"
                    except Refused as error:
                        behind, answer = plain, f"refused: {error.__class__.__name__} {error.what}"
                    if behind != plain:
                        done[hand] = done.get(hand, []) + [(plain, behind)]
                        undone[hand] = []
                self.assertEqual(desk.row(row), answer, row)
                plain = behind
                self.assertEqual(desk.worths(), plain)
                word = way + " " + " ".join(answer.split()[:2])
                told[word] = told.get(word, 0) + 1
        for word in ("undo done", "redo done", "undo refused: Changed", "undo refused: TooWide",
                     "redo refused: NothingToRedo",
                     "undo refused: NothingToUndo", "redo refused: Changed"):
            self.assertIn(word, told)

    def plain_row(self, desk, plain, done, undone, hand, way):
        """The worths behind an undo or a redo, and its answer."""
        if way not in ("undo", "redo"):
            return plain, ""
        lots, others = (done, undone) if way == "undo" else (undone, done)
        if not lots.get(hand):
            return plain, f"refused: NothingTo{way.capitalize()} {hand}"
        pair = lots[hand][-1]
        ahead, behind = pair[::-1] if way == "undo" else pair
        changed = [at for at in range(4) if ahead[at] != behind[at]]
        other = [at for at in changed if plain[at] != ahead[at]]
        if other:
            return plain, "refused: Changed " + ("ann", "bob", "cat", "shop")[other[0]]
        if len(changed) > 2 or (3 in changed and len(changed) > 1):
            return plain, "refused: TooWide " + hand
        others.setdefault(hand, []).append(lots[hand].pop())
        return tuple(behind[at] if at in changed else plain[at] for at in range(4)), "done"


if __name__ == "__main__":
    unittest.main()
