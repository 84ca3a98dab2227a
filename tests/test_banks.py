import unittest

from helper import Refusing, nested, ones, put_row, replaced, seen, striped, table_of, what_of
from twicemany.banks import Bank, change
from twicemany.codes import do
from twicemany.errors import (BadChange, BadCode, BadNumber, BadStop, Blind, Spoilt, TooWide, Unwhole)
from twicemany.racks import Rack

SHAPE = (5, 1, 2, 2, 0, 0, ((3, 1), (2, 2), (3, 4)))
WAITED = (31, 1, 3, 2, 0, 1, ((8, 12, 18), (11, 29, 17), (26, 19, 17)))
LOSS = (7, 1, 2, 2, 1, 0, ((2, 5), (4, 2), (6, 2), (5, 1)))
WIDE = (257, 3, 4, 3, 2, 0, table_of(1, 257, 4, 8))


def written(shape, row, ahead, behind, lost=()):
    """The writes that bring one right stripe to another one."""
    before, after = striped(shape, ahead), striped(shape, behind)
    return tuple((row, shelf, cell) for shelf, cell in enumerate(after) if cell != before[shelf] and shelf not in lost)


class Changes(Refusing):
    def told(self, rack, row, changes):
        """The code of a change, which changes nothing by itself."""
        ahead = seen(rack)
        code = change(rack, row, changes)
        self.assertEqual(seen(rack), ahead)
        self.assertEqual(Bank(rack).changed(row, changes), code)
        return code

    def test_the_example(self):
        code = self.told(Rack(SHAPE, 1), 0, ((0, (1,)), (1, (0,))))
        self.assertEqual(code, (((0, 0, (3,)), (0, 1, (2,)), (0, 2, (3,)), (0, 3, (1,))),))

    def test_each_change_of_a_small_row(self):
        rack = Rack(SHAPE, 2)
        for a in range(5):
            for b in range(5):
                put_row(rack, 1, ones(a, 3))
                code = self.told(rack, 1, ((0, (b,)), (1, (a,))))
                writes = written(SHAPE, 1, ones(a, 3), ones(b, a))
                self.assertEqual(code, (writes,) if writes else ())
                do(rack, code)
                self.assertEqual(rack.left(1), striped(SHAPE, ones(b, a)))

    def test_no_changes_and_changes_that_change_nothing(self):
        for shape in (SHAPE, WAITED, LOSS):
            rack = Rack(shape, 1)
            put_row(rack, 0, ones(*range(1, shape[2] + 1)))
            self.assertEqual(self.told(rack, 0, ()), ())
            self.assertEqual(self.told(rack, 0, tuple((x, (x + 1,)) for x in range(shape[2]))), ())
            some = self.told(rack, 0, ((0, (1,)), (1, (0,))))
            self.assertEqual(some, self.told(rack, 0, ((1, (0,)),)))

    def test_as_many_as_k_and_one_more(self):
        for k in (1, 2, 3):
            for manner in (0, 1):
                shape = (31, 1, 4, k, 0, manner, table_of(k, 31, 4, 6))
                rack = Rack(shape, 2)
                put_row(rack, 1, ones(1, 2, 3, 4))
                for many in range(5):
                    changes = tuple((x, (9,)) for x in range(many))
                    if many <= k:
                        writes = sum(self.told(rack, 1, changes), ())
                        behind = ones(*[9] * many + [1, 2, 3, 4][many:])
                        self.assertEqual(writes, written(shape, 1, ones(1, 2, 3, 4), behind))
                    else:
                        self.assertEqual(self.refused(rack, TooWide, change, rack, 1, changes), many)
                # A pair that changes nothing is not counted.
                same = tuple((x, (9,) if x < k else (x + 1,)) for x in range(4))
                self.assertEqual(self.told(rack, 1, same), self.told(rack, 1, same[:k]))

    def test_waited_the_sums_go_first(self):
        rack = Rack(WAITED, 3)
        put_row(rack, 2, ones(4, 5, 6))
        code = self.told(rack, 2, ((0, (7,)), (2, (30,))))
        writes = written(WAITED, 2, ones(4, 5, 6), ones(7, 5, 30))
        self.assertEqual(code, (writes[:3], writes[3:]))
        self.assertEqual([write[1] for write in writes], [0, 1, 2, 3, 5])

    def test_waited_a_batch_without_writes_is_left_out(self):
        nought = replaced(WAITED, 6, ((0, 1, 1), (0, 2, 3), (0, 4, 5)))
        self.assertEqual(self.told(Rack(nought, 1), 0, ((0, (7,)),)), (((0, 3, (7,)),),))
        self.assertEqual(self.told(Rack(replaced(WAITED, 6, ()), 1), 0, ((0, (7,)),)), (((0, 0, (7,)),),))

    def test_a_sum_that_stays_is_not_written(self):
        shape = (7, 1, 2, 2, 0, 0, ((1, 1), (1, 2)))
        code = self.told(Rack(shape, 1), 0, ((0, (3,)), (1, (4,))))
        self.assertEqual(code, (((0, 1, (4,)), (0, 2, (3,)), (0, 3, (4,))),))

    def test_a_lost_shelf_ahead_of_a_change(self):
        for lost in range(6):
            rack = Rack(LOSS, 2)
            put_row(rack, 1, ones(3, 4))
            rack.lose(lost)
            code = self.told(rack, 1, ((0, (1,)), (1, (2,))))
            self.assertEqual(code, (written(LOSS, 1, ones(3, 4), ones(1, 2), (lost,)),))
            do(rack, code)
            self.assertEqual(Bank(rack).row(1), ones(1, 2))
            # To a raw shelf the same is written, whatever lies there.
            rack.replace(lost)
            code = self.told(rack, 1, ((0, (5,)), (1, (6,))))
            self.assertEqual(code, (written(LOSS, 1, ones(1, 2), ones(5, 6)),))

    def test_only_the_lost_shelf_would_be_written(self):
        rack = Rack((7, 1, 2, 1, 1, 0, ((1, 1), (1, 0))), 1)
        rack.lose(3)
        self.assertEqual(self.told(rack, 0, ((1, (4,)),)), (((0, 0, (4,)),),))
        rack = Rack((7, 1, 2, 1, 1, 0, ((1, 0),)), 1)
        rack.lose(0)
        self.assertEqual(self.told(rack, 0, ((0, (4,)),)), (((0, 1, (4,)),),))
        waited = Rack((7, 1, 1, 1, 1, 0, ((1,), (0,))), 1)
        waited.lose(2)
        self.assertEqual(self.told(waited, 0, ((0, (4,)),)), (((0, 0, (4,)),),))

    def test_cells_of_several_numbers(self):
        rack = Rack(WIDE, 16)
        row = tuple((x, x + 1, 256) for x in range(4))
        put_row(rack, 15, row)
        code = self.told(rack, 15, ((0, (0, 1, 255)), (1, row[1]), (3, (9, 9, 9))))
        behind = ((0, 1, 255), row[1], row[2], (9, 9, 9))
        self.assertEqual(code, (written(WIDE, 15, row, behind),))


class Refused(Refusing):
    def test_numbers_of_rows_come_first(self):
        rack = Rack(SHAPE, 2)
        rack.put(0, 4, (1,))
        for row in (None, "", "1", (), (1,), True, -1, 2, 10 ** 900):
            self.assertEqual(self.refused(rack, BadNumber, change, rack, row, None), row)
            self.assertEqual(self.refused(rack, BadNumber, Bank(rack).row, row), row)

    def test_changes_come_next(self):
        rack = Rack(WAITED, 2)
        rack.put(0, 4, (1,))
        for changes in (None, True, 0, "ab", [], [(0, (1,))]):
            self.assertEqual(self.refused(rack, BadChange, change, rack, 0, changes), -1)
        pairs = (None, True, 0, "ab", (), (1,), (1, (1,), 1), [1, (1,)], (3, (1,)), (-1, (1,)), (True, (1,)),
                 (None, (1,)), ("1", (1,)), ((1,), (1,)), (1, None), (1, 1), (1, ()), (1, (31,)), (1, (-1,)),
                 (1, (1, 1)), (1, (True,)), (1, ((1,),)), (10 ** 900, (1,)), (0, (2,)), nested(50))
        for pair in pairs:
            for changes in (((0, (1,)), pair), ((0, (1,)), pair, None), ((0, (1,)), pair, (2, (3,)))):
                self.assertEqual(self.refused(rack, BadChange, change, rack, 0, changes), 1, changes)
            if pair != (0, (2,)):
                self.assertEqual(self.refused(rack, BadChange, change, rack, 0, (pair, pair)), 0)
        self.assertEqual(self.refused(rack, BadChange, change, rack, 0, ((0, (1,)), (2, (1,)), (1, (1,)))), 2)
        self.assertEqual(self.refused(rack, BadChange, change, rack, 0, ((0, (1,)), (2, (1,)), (2, (2,)))), 2)

    def test_then_the_row_has_to_be_whole(self):
        rack = Rack(SHAPE, 2)
        rack.put(1, 4, (1,))
        wide = ((0, (1,)), (1, (1,)))
        self.assertEqual(self.refused(rack, Unwhole, change, rack, 1, wide), 1)
        self.assertEqual(self.refused(rack, Unwhole, change, rack, 1, ()), 1)
        self.assertEqual(self.refused(rack, Unwhole, Bank(rack).row, 1), 1)
        # Also if no story leaves it: then nothing is told of it.
        for shelf, cell in enumerate(ones(0, 0, 1, 3, 4)):
            rack.put(1, shelf, cell)
        self.assertEqual(self.refused(rack, Unwhole, change, rack, 1, ()), 1)
        self.assertEqual(self.refused(rack, Spoilt, Bank(rack).mended), 1)

    def test_then_comes_what_told_raises(self):
        rack = Rack((7, 1, 2, 1, 1, 0, ((1, 0),)), 2)
        rack.lose(2)
        wide = ((0, (1,)), (1, (1,)))
        self.assertEqual(self.refused(rack, Blind, change, rack, 1, wide), (2,))
        self.assertEqual(self.refused(rack, Blind, Bank(rack).row, 1), (2,))
        rack.put(1, 0, (1,))
        self.assertEqual(self.refused(rack, Unwhole, change, rack, 1, wide), 1)

    def test_then_how_many_change(self):
        rack = Rack((7, 1, 3, 1, 1, 0, table_of(3, 7, 3, 4)), 2)
        rack.put(0, 5, (1,))
        wide = ((0, (1,)), (1, (1,)), (2, (0,)))
        self.assertEqual(self.refused(rack, Unwhole, change, rack, 0, wide), 0)
        self.assertEqual(self.refused(rack, TooWide, change, rack, 1, wide), 2)
        self.assertEqual(self.refused(rack, TooWide, Bank(rack).changed, 1, wide), 2)


class Banks(Refusing):
    def test_attributes(self):
        for shape, many in ((SHAPE, 1), (WAITED, 3), (WIDE, 16)):
            rack = Rack(shape, many)
            bank = Bank(rack)
            self.assertIs(bank.rack, rack)
            told = bank.rows, bank.cells, bank.wide, bank.most, bank.top
            self.assertEqual(told, (many, shape[2], shape[1], shape[3], shape[0] - 1))

    def test_the_rack_as_it_is_at_each_call(self):
        rack = Rack(LOSS, 2)
        bank = Bank(rack)
        self.assertEqual(bank.row(1), ones(0, 0))
        put_row(rack, 1, ones(3, 4))
        self.assertEqual(bank.row(1), ones(3, 4))
        rack.lose(5)
        self.assertEqual(bank.row(1), ones(3, 4))
        self.assertEqual(bank.row(0), ones(0, 0))
        rack.put(1, 0, (1,))
        self.assertEqual(what_of(self, Unwhole, bank.row, 1), 1)
        self.assertEqual(bank.mended(), (((1, 0, striped(LOSS, ones(3, 4))[0]),),))
        self.assertIsNone(bank.do(bank.mended()))
        self.assertEqual(bank.row(1), ones(3, 4))
        self.assertEqual(bank.mended(), ())

    def test_do_and_stop(self):
        rack = Rack(SHAPE, 2)
        bank = Bank(rack)
        code = bank.changed(1, ((0, (1,)), (1, (0,))))
        self.assertIsNone(bank.stop(code, 0, (0, 3)))
        self.assertEqual(rack.left(1), ones(3, 0, 0, 1, 0))
        bank.do(code)
        self.assertEqual(bank.row(1), ones(1, 0))
        bank.stop(code, 1, ())
        self.assertEqual(self.refused(rack, BadCode, bank.do, (None,)), 0)
        self.assertEqual(self.refused(rack, BadCode, bank.do, None), -1)
        self.assertEqual(self.refused(rack, BadCode, bank.stop, (code[0], ()), None, None), 1)
        self.assertEqual(self.refused(rack, BadStop, bank.stop, code, 2, None), 0)
        self.assertEqual(self.refused(rack, BadStop, bank.stop, code, 1, (0,)), 1)

    def test_a_bank_of_one_row(self):
        bank = Bank(Rack(SHAPE, 1))
        bank.do(bank.changed(0, ((1, (4,)),)))
        self.assertEqual(bank.row(0), ones(0, 4))
        self.assertEqual(what_of(self, BadNumber, bank.changed, 1, ()), 1)


if __name__ == "__main__":
    unittest.main()
