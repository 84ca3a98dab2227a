import unittest

from helper import ODD, Refusing, nested, ones, subsets, what_of
from twicemany.codes import do, made_code, stop
from twicemany.errors import BadCode, BadStop
from twicemany.racks import Rack

SHAPE = (7, 1, 2, 2, 1, 0, ((2, 5), (4, 2), (6, 2), (5, 1)))
WIDE = (7, 2, 2, 1, 0, 0, ((1, 2),))
CODE = (((0, 0, (1,)), (0, 3, (2,)), (0, 5, (3,))), ((1, 1, (4,)),), ((0, 0, (5,)), (0, 1, (6,))))
NO_WRITES = (
    None, True, 0, "abc", (), (0, 0), (0, 0, (1,), 0), [0, 0, (1,)], (2, 0, (1,)), (-1, 0, (1,)), (True, 0, (1,)),
    (None, 0, (1,)), ("0", 0, (1,)), ((0,), 0, (1,)), (0, 6, (1,)), (0, -1, (1,)), (0, True, (1,)), (0, None, (1,)),
    (0, "0", (1,)), (0, 0, None), (0, 0, 1), (0, 0, ()), (0, 0, (7,)), (0, 0, (-1,)), (0, 0, (1, 1)), (0, 0, (True,)),
    (10 ** 900, 0, (1,)), (0, 10 ** 900, (1,)), (0, 0, (10 ** 900,)),
)


def cells_of(rack):
    return [[rack.cell(row, shelf) for shelf in range(6)] for row in range(rack.rows)]


def plain(writes, rows=2, lost=()):
    """What lies in a rack of zeros behind some writes."""
    cells = [[(0,)] * 6 for _ in range(rows)]
    for row, shelf, cell in writes:
        cells[row][shelf] = cell
    return [[None if shelf in lost else cell for shelf, cell in enumerate(row)] for row in cells]


class Made(Refusing):
    def test_codes_are_returned(self):
        rack = Rack(SHAPE, 2)
        every = tuple((1, shelf, (shelf,)) for shelf in range(6))
        for code in ((), CODE, (every,), (every, every), (((0, 5, (0,)),),)):
            self.assertEqual(made_code(rack, code), code)
        rack.lose(0)
        self.assertEqual(made_code(rack, CODE), CODE)
        wide = (((15, 0, (1, 2)), (15, 2, (6, 0))),)
        self.assertEqual(made_code(Rack(WIDE, 16), wide), wide)

    def test_what_is_no_tuple(self):
        rack = Rack(SHAPE, 2)
        for thing in (None, True, 0, 3, "", "ab", list(CODE)):
            for call in (made_code, do):
                self.assertEqual(self.refused(rack, BadCode, call, rack, thing), -1)
            self.assertEqual(self.refused(rack, BadCode, stop, rack, thing, None, None), -1)

    def test_the_first_that_is_no_batch(self):
        rack = Rack(SHAPE, 2)
        right = (0, 0, (1,))
        batches = [(write,) for write in NO_WRITES] + [(write, (0, 5, (1,))) for write in NO_WRITES]
        batches += [((0, 0, (1,)), (0, 0, (2,))), ((0, 3, (1,)), (0, 2, (2,))), ((0, 0, (1,)), (1, 1, (2,))),
                    ((0, 0, (1,)), (0, 1, (1,)), (1, 2, (1,))), right, list((right,)), None, True, 3, "ab", (),
                    ((0, 1, (1,)), (0, 5, (7,))), (right, None)]
        for batch in batches + [thing for thing in ODD if thing != ()]:
            for code, index in (((batch,), 0), (CODE + (batch, None), 3), ((CODE[0], batch, CODE[1]), 1)):
                for call in (made_code, do):
                    self.assertEqual(self.refused(rack, BadCode, call, rack, code), index, batch)
                self.assertEqual(self.refused(rack, BadCode, stop, rack, code, None, None), index)
        self.assertEqual(self.refused(rack, BadCode, do, rack, nested(50)), 0)

    def test_cells_and_rows_are_those_of_the_rack(self):
        self.assertEqual(what_of(self, BadCode, made_code, Rack(WIDE, 1), (((0, 0, (1,)),),)), 0)
        self.assertEqual(what_of(self, BadCode, made_code, Rack(WIDE, 1), (((1, 0, (1, 1)),),)), 0)
        self.assertEqual(what_of(self, BadCode, made_code, Rack(WIDE, 2), (((1, 3, (1, 1)),),)), 0)


class Done(Refusing):
    def test_do(self):
        rack = Rack(SHAPE, 2)
        self.assertIsNone(do(rack, CODE))
        self.assertEqual(cells_of(rack), plain(sum(CODE, ())))
        self.assertEqual(rack.left(0), ones(5, 6, 0, 2, 0, 3))
        self.assertEqual(rack.left(1), ones(0, 4, 0, 0, 0, 0))
        do(rack, ())
        self.assertEqual(cells_of(rack), plain(sum(CODE, ())))

    def test_later_batches_lie_on_earlier_ones(self):
        rack = Rack(SHAPE, 2)
        do(rack, CODE + CODE[:1])
        self.assertEqual(rack.cell(0, 0), (1,))

    def test_writes_to_lost_shelves_fall_away(self):
        for lost in range(6):
            rack = Rack(SHAPE, 2)
            rack.lose(lost)
            do(rack, CODE)
            self.assertEqual(cells_of(rack), plain(sum(CODE, ()), lost=(lost,)))
            rack.replace(lost)
            do(rack, CODE)
            self.assertEqual(cells_of(rack), plain(sum(CODE, ())))
            self.assertEqual(rack.states()[lost], "raw")


class Stopped(Refusing):
    def test_each_stop(self):
        for lost in (None, 0, 1, 3, 5):
            for many in range(4):
                last = CODE[many] if many < 3 else ()
                for came in subsets(range(len(last))):
                    rack = Rack(SHAPE, 2)
                    if lost is not None:
                        rack.lose(lost)
                    self.assertIsNone(stop(rack, CODE, many, came))
                    writes = sum(CODE[:many], ()) + tuple(last[index] for index in came)
                    self.assertEqual(cells_of(rack), plain(writes, lost=(lost,)))

    def test_ahead_of_the_first_and_behind_the_last(self):
        rack = Rack(SHAPE, 2)
        stop(rack, CODE, 0, ())
        self.assertEqual(cells_of(rack), plain(()))
        stop(rack, CODE, 3, ())
        self.assertEqual(cells_of(rack), plain(sum(CODE, ())))
        stop(rack, (), 0, ())
        self.assertEqual(cells_of(rack), plain(sum(CODE, ())))

    def test_many(self):
        rack = Rack(SHAPE, 2)
        for many in (None, "", "1", (), (1,), True, -1, 4, 10 ** 900):
            self.assertEqual(self.refused(rack, BadStop, stop, rack, CODE, many, None), 0)
        self.assertEqual(self.refused(rack, BadStop, stop, rack, (), 1, ()), 0)

    def test_came(self):
        rack = Rack(SHAPE, 2)
        for came in (None, True, 0, "", "0", [], [0], (3,), (-1,), (1, 0), (0, 0), (True,), (None,), ("0",), (0, 1, 2, 3)):
            self.assertEqual(self.refused(rack, BadStop, stop, rack, CODE, 0, came), 1)
            self.assertEqual(self.refused(rack, BadStop, stop, rack, CODE, 3, came), 1)
        self.assertEqual(self.refused(rack, BadStop, stop, rack, CODE, 1, (1,)), 1)
        self.assertEqual(self.refused(rack, BadStop, stop, rack, CODE, 2, (2,)), 1)
        self.assertEqual(self.refused(rack, BadStop, stop, rack, CODE, 3, (0,)), 1)
        self.assertEqual(self.refused(rack, BadStop, stop, rack, (), 0, (0,)), 1)


if __name__ == "__main__":
    unittest.main()
