import unittest

from helper import Refusing, nested, put_row, replaced, seen, striped, table_of, what_of
from twicemany.banks import Bank
from twicemany.errors import BadChange, BadNumber, BadSchema, BadWorths, Blind, TooWide, Unwhole
from twicemany.finder import finder
from twicemany.houses import do_steps, lay, made_worths, worths_of
from twicemany.racks import Rack

SCHEMA = ((("ann", 100), ("bob", 100)), (("shop", 100),))
GREAT = ((("a", 2), ("b", 257)), (("c", 50), ("d", 256)), (("e", 9),))


def bank_of(rows=4, wide=1, p=257, n=3, k=2, e=1, table=None):
    return Bank(Rack((p, wide, n, k, e, 0, table_of(1, p, n, 5) if table is None else table), rows))


def cell(number, wide=1):
    return (number,) + (0,) * (wide - 1)


class Worths(unittest.TestCase):
    def test_worths_are_returned(self):
        for worths in ((5, 0, 0), (0, 0, 0), (99, 99, 99)):
            self.assertEqual(made_worths(SCHEMA, worths), worths)
        self.assertEqual(made_worths(GREAT, (1, 256, 49, 255, 8)), (1, 256, 49, 255, 8))

    def test_what_is_no_tuple_of_as_many(self):
        for worths in (None, True, 3, "abc", (), (5,), (5, 0), (5, 0, 0, 0), ((5, 0), (0,)), [5, 0, 0], nested(50)):
            self.assertEqual(what_of(self, BadWorths, made_worths, SCHEMA, worths), -1)

    def test_the_first_that_is_none_of_its_record(self):
        for at, size in enumerate((2, 257, 50, 256, 9)):
            for number in (None, True, False, "1", (), (1,), -1, size, size + 1, 10 ** 900):
                worths = (1, 256, 49, 255, 8)[:at] + (number,) + (None,) * (4 - at)
                self.assertEqual(what_of(self, BadWorths, made_worths, GREAT, worths), at)


class Lying(Refusing):
    def test_where_records_lie(self):
        for wide in (1, 3):
            bank = bank_of(4, wide)
            told = [[10 * row + x for x in range(3)] for row in range(4)]
            for row in range(4):
                put_row(bank.rack, row, tuple(cell(number, wide) for number in told[row]))
            ahead = seen(bank.rack)
            self.assertEqual(worths_of(bank, SCHEMA), (11, 12, 21))
            self.assertEqual(worths_of(bank, GREAT), (11, 12, 21, 22, 31))
            self.assertEqual(worths_of(bank, (SCHEMA[1],)), (11,))
            self.assertEqual(seen(bank.rack), ahead)

    def test_numbers_that_are_none_of_their_record(self):
        bank = bank_of()
        put_row(bank.rack, 1, ((0,), (100,), (256,)))
        self.assertEqual(worths_of(bank, SCHEMA), (100, 256, 0))

    def test_only_the_first_number_counts(self):
        bank = bank_of(3, 3)
        put_row(bank.rack, 2, ((9, 9, 9), (7, 8, 9), (5, 5, 5)))
        self.assertEqual(worths_of(bank, SCHEMA), (0, 0, 7))

    def test_behind_a_loss(self):
        bank = bank_of()
        put_row(bank.rack, 1, ((1,), (2,), (3,)))
        bank.rack.lose(6)
        self.assertEqual(worths_of(bank, SCHEMA), (2, 3, 0))

    def test_the_schema_comes_first(self):
        bank = bank_of(3)
        bank.rack.put(1, 0, (1,))
        self.assertEqual(self.refused(bank.rack, BadSchema, worths_of, bank, GREAT), 2)
        self.assertEqual(self.refused(bank.rack, BadSchema, worths_of, bank, ()), -1)
        self.assertEqual(self.refused(bank.rack, BadSchema, worths_of, bank_of(k=1), SCHEMA), -1)

    def test_what_row_raises_goes_through(self):
        bank = bank_of()
        bank.rack.put(0, 0, (1,))
        bank.rack.put(3, 0, (1,))
        self.assertEqual(worths_of(bank, SCHEMA), (0, 0, 0))
        self.assertEqual(self.refused(bank.rack, Unwhole, worths_of, bank, GREAT), 3)
        bank.rack.put(2, 0, (1,))
        self.assertEqual(self.refused(bank.rack, Unwhole, worths_of, bank, GREAT), 2)
        bank = bank_of(table=((1, 0, 0),))
        bank.rack.lose(2)
        self.assertEqual(self.refused(bank.rack, Blind, worths_of, bank, SCHEMA), (2,))


class Steps(Refusing):
    def plain_of(self, bank):
        return [[cell[0] for cell in bank.row(row)] for row in range(bank.rows)]

    def test_steps_in_order(self):
        for wide in (1, 2):
            bank = bank_of(3, wide)
            steps = ((1, ((0, 5), (2, 256))), (0, ((1, 7),)), (1, ((0, 6),)), (2, ((0, 0), (1, 0))), (1, ()))
            self.assertIsNone(do_steps(bank, steps))
            self.assertEqual(self.plain_of(bank), [[0, 7, 0], [6, 0, 256], [0, 0, 0]])
            for row, numbers in enumerate(self.plain_of(bank)):
                self.assertEqual(bank.row(row), tuple(cell(number, wide) for number in numbers))
                self.assertEqual(bank.rack.left(row), striped(bank.rack.shape, bank.row(row)))

    def test_no_steps(self):
        bank = bank_of()
        ahead = seen(bank.rack)
        do_steps(bank, ())
        do_steps(bank, ((1, ()), (1, ((0, 0), (1, 0)))))
        self.assertEqual(seen(bank.rack), ahead)

    def test_the_other_numbers_of_a_cell_become_0(self):
        bank = bank_of(2, 3)
        put_row(bank.rack, 1, ((1, 2, 3), (4, 5, 6), (7, 8, 9)))
        do_steps(bank, ((1, ((0, 1), (2, 0))),))
        self.assertEqual(bank.row(1), ((1, 0, 0), (4, 5, 6), (0, 0, 0)))

    def test_cells_that_lie_so_already_are_left_out(self):
        bank = bank_of()
        do_steps(bank, ((1, ((0, 3), (1, 4))),))
        do_steps(bank, ((1, ((0, 3), (1, 4))), (1, ((1, 4), (2, 5)))))
        self.assertEqual(self.plain_of(bank)[1], [3, 4, 5])
        # Three cells, but only two of them change.
        do_steps(bank, ((1, ((0, 3), (1, 8), (2, 9))),))
        self.assertEqual(self.plain_of(bank)[1], [3, 8, 9])

    def test_each_step_is_told_as_the_bank_lies_then(self):
        bank = bank_of()
        do_steps(bank, tuple((1, ((0, number),)) for number in (5, 9, 5, 0, 256)))
        self.assertEqual(self.plain_of(bank)[1], [256, 0, 0])

    def test_the_steps_ahead_of_an_error_are_done(self):
        ahead = (1, ((0, 5),))
        for step, error, what in (((4, ()), BadNumber, 4), ((2, ((0, 1), (1, 1), (2, 1))), TooWide, 3),
                                  ((2, ((0, 257),)), BadChange, 0), ((2, ((0, 1), (3, 1))), BadChange, 1),
                                  ((2, ((1, 1), (0, 1))), BadChange, 1)):
            bank = bank_of()
            self.assertEqual(what_of(self, error, do_steps, bank, (ahead, step, (1, ((1, 6),)))), what)
            self.assertEqual(self.plain_of(bank), [[0, 0, 0], [5, 0, 0], [0, 0, 0], [0, 0, 0]])
        bank = bank_of()
        bank.rack.put(2, 0, (1,))
        self.assertEqual(what_of(self, Unwhole, do_steps, bank, (ahead, (2, ()), (1, ((1, 6),)))), 2)
        self.assertEqual(bank.row(1), ((5,), (0,), (0,)))

    def test_with_a_shelf_that_is_lost(self):
        bank = bank_of()
        bank.rack.lose(5)
        do_steps(bank, ((1, ((0, 5), (1, 6))),))
        self.assertEqual(self.plain_of(bank)[1], [5, 6, 0])
        self.assertIsNone(bank.rack.cell(1, 5))


class Laying(Refusing):
    def test_the_example(self):
        for bank in (bank_of(), bank_of(3, 4, 1000003, 8, 3, 0)):
            self.assertEqual(lay(bank, SCHEMA, (5, 0, 0)), (
                (1, ((0, 0),)), (2, ((0, 0),)), (0, ((0, 0),)), (1, ((1, 5),)), (1, ((2, 0),)), (2, ((1, 0),))))

    def test_whatever_lies(self):
        bank = bank_of()
        told = lay(bank, GREAT, (1, 256, 49, 255, 8))
        self.assertEqual(told, (
            (1, ((0, 0),)), (2, ((0, 0),)), (3, ((0, 0),)), (0, ((0, 0),)),
            (1, ((1, 1),)), (1, ((2, 256),)), (2, ((1, 49),)), (2, ((2, 255),)), (3, ((1, 8),))))
        ahead = seen(bank.rack)
        do_steps(bank, told)
        self.assertNotEqual(seen(bank.rack), ahead)
        bank.rack.put(1, 0, (9,))
        ahead = seen(bank.rack)
        self.assertEqual(lay(bank, GREAT, (1, 256, 49, 255, 8)), told)
        self.assertEqual(seen(bank.rack), ahead)

    def test_it_brings_a_bank_to_rest(self):
        for wide in (1, 2):
            table = finder(1009, 3, 2, 1, 0, 5, 0, 100)[1]
            bank = bank_of(4, wide, 1009, 3, 2, 1, table)
            for row in range(4):
                put_row(bank.rack, row, tuple((row * 7 + x + 1,) * wide for x in range(3)))
            for worths in ((1, 256, 49, 255, 8), (0, 0, 0, 0, 0), (1, 0, 5, 0, 5)):
                do_steps(bank, lay(bank, GREAT, worths))
                self.assertEqual(worths_of(bank, GREAT), worths)
                self.assertEqual([bank.row(row)[0] for row in range(4)], [(0,) * wide] * 4)
            self.assertEqual(bank.row(0)[1:], ((2,) * wide, (3,) * wide))
            self.assertEqual(bank.row(3)[2], (24,) * wide)

    def test_wrong_arguments_from_the_left(self):
        bank = bank_of(3)
        self.assertEqual(self.refused(bank.rack, BadSchema, lay, bank, GREAT, None), 2)
        self.assertEqual(self.refused(bank.rack, BadSchema, lay, bank, (), None), -1)
        self.assertEqual(self.refused(bank.rack, BadWorths, lay, bank, SCHEMA, None), -1)
        self.assertEqual(self.refused(bank.rack, BadWorths, lay, bank, SCHEMA, (0, 0)), -1)
        self.assertEqual(self.refused(bank.rack, BadWorths, lay, bank, SCHEMA, (0, 100, None)), 1)
        self.assertEqual(self.refused(bank.rack, BadWorths, lay, bank, SCHEMA, replaced((0, 0, 0), 2, 100)), 2)

    def test_rows_that_are_not_whole_are_not_asked(self):
        bank = bank_of(3)
        bank.rack.put(1, 0, (1,))
        self.assertEqual(len(lay(bank, SCHEMA, (5, 0, 0))), 6)


if __name__ == "__main__":
    unittest.main()
