import unittest

from helper import ODD, Refusing, nested, ones, put_row, replaced, seen, striped, what_of
from twicemany.errors import BadCell, BadNumber, BadShape, BadShelf, Blind, NotLost, TooMany, Unlike, Unwhole
from twicemany.racks import Rack

SHAPE = (7, 1, 2, 2, 1, 0, ((2, 5), (4, 2), (6, 2), (5, 1)))
NO_LOSS = (7, 1, 2, 2, 0, 0, ((6, 2), (5, 6), (3, 4)))
TWO = (1009, 2, 2, 1, 2, 0, ((1, 2), (3, 4), (5, 6), (8, 7)))
NO_NUMBERS = (None, "", "1", (), (1,), True, -1, 10 ** 900)


class Made(Refusing):
    def test_attributes_and_zeros(self):
        for shape in (SHAPE, NO_LOSS, TWO, (5, 16, 8, 3, 0, 1, ()), (5, 1, 1, 1, 0, 0, ())):
            for many in (1, 2, 16):
                rack = Rack(shape, many)
                self.assertEqual((rack.shape, rack.rows), (shape, many))
                shelves = len(shape[6]) + shape[2]
                self.assertEqual(rack.states(), ("kept",) * shelves)
                for row in range(many):
                    self.assertEqual(rack.left(row), ((0,) * shape[1],) * shelves)
                    for shelf in range(shelves):
                        self.assertEqual(rack.cell(row, shelf), (0,) * shape[1])

    def test_a_shape_that_does_not_stand_is_let(self):
        self.assertEqual(Rack((7, 1, 3, 2, 0, 0, ()), 2).left(1), ones(0, 0, 0))

    def test_wrong_arguments_from_the_left(self):
        for thing in ODD:
            self.assertEqual(what_of(self, BadShape, Rack, thing, None), -1)
        self.assertEqual(what_of(self, BadShape, Rack, replaced(SHAPE, 4, 3), 0), 4)
        for many in NO_NUMBERS + (0, 17):
            self.assertEqual(what_of(self, BadNumber, Rack, SHAPE, many), many)

    def test_racks_are_apart(self):
        one, other = Rack(SHAPE, 2), Rack(SHAPE, 2)
        one.put(0, 0, (3,))
        one.lose(1)
        self.assertEqual(other.left(0), ones(0, 0, 0, 0, 0, 0))
        self.assertEqual(one.left(1), ones(0, None, 0, 0, 0, 0))
        self.assertEqual(other.states(), ("kept",) * 6)


class Cells(Refusing):
    def test_put_and_cell(self):
        rack = Rack(TWO, 16)
        for row in (0, 7, 15):
            for shelf in range(6):
                rack.put(row, shelf, (row * 10 + shelf, 1008))
        for row in range(16):
            for shelf in range(6):
                cell = (row * 10 + shelf, 1008) if row in (0, 7, 15) else (0, 0)
                self.assertEqual(rack.cell(row, shelf), cell)
                self.assertEqual(rack.left(row)[shelf], cell)

    def test_put_at_a_lost_shelf_falls_away(self):
        rack = Rack(SHAPE, 2)
        rack.lose(3)
        rack.put(1, 3, (5,))
        self.assertIsNone(rack.cell(1, 3))
        rack.replace(3)
        self.assertEqual(rack.cell(1, 3), (0,))
        self.assertEqual(self.refused(rack, BadCell, rack.put, 1, 3, (7,)), 0)

    def test_a_wrong_cell_for_a_lost_shelf_is_refused_too(self):
        rack = Rack(SHAPE, 1)
        rack.lose(3)
        self.assertEqual(self.refused(rack, BadCell, rack.put, 0, 3, None), 0)

    def test_wrong_arguments_from_the_left(self):
        rack = Rack(SHAPE, 2)
        put_row(rack, 1, ones(3, 4))
        for row in NO_NUMBERS + (2,):
            self.assertEqual(self.refused(rack, BadNumber, rack.left, row), row)
            self.assertEqual(self.refused(rack, BadNumber, rack.cell, row, None), row)
            self.assertEqual(self.refused(rack, BadNumber, rack.put, row, None, None), row)
        for shelf in NO_NUMBERS + (6,):
            self.assertEqual(self.refused(rack, BadShelf, rack.cell, 1, shelf), shelf)
            self.assertEqual(self.refused(rack, BadShelf, rack.put, 1, shelf, None), shelf)
            for call in (rack.lose, rack.replace):
                self.assertEqual(self.refused(rack, BadShelf, call, shelf), shelf)
        for cell in (None, True, 3, "a", (), (7,), (-1,), (1, 1), (True,), ((1,),), [1], nested(50)):
            self.assertEqual(self.refused(rack, BadCell, rack.put, 1, 5, cell), 0)


class Losses(Refusing):
    def test_a_shelf_is_lost_with_all_its_cells(self):
        rack = Rack(SHAPE, 3)
        for row in range(3):
            put_row(rack, row, ones(row, 4))
        rack.lose(4)
        self.assertEqual(rack.states(), ("kept",) * 4 + ("lost", "kept"))
        for row in range(3):
            self.assertIsNone(rack.cell(row, 4))
            self.assertEqual(rack.left(row), replaced(striped(SHAPE, ones(row, 4)), 4, None))

    def test_no_more_than_e(self):
        for e, shape in ((0, NO_LOSS), (1, SHAPE), (2, TWO), (2, (5, 1, 1, 1, 2, 0, ()))):
            shelves = len(shape[6]) + shape[2]
            rack = Rack(shape, 1)
            for shelf in range(min(e, shelves)):
                rack.lose(shelf)
            for shelf in range(e, shelves):
                self.assertEqual(self.refused(rack, TooMany, rack.lose, shelf), e + 1)

    def test_what_is_lost_or_raw_counts_once(self):
        rack = Rack(TWO, 2)
        rack.lose(1)
        rack.lose(1)
        rack.lose(4)
        rack.lose(4)
        self.assertEqual(rack.states(), ("kept", "lost", "kept", "kept", "lost", "kept"))
        rack.replace(1)
        self.assertEqual(self.refused(rack, TooMany, rack.lose, 0), 3)
        rack.lose(1)
        self.assertEqual(rack.states(), ("kept", "lost", "kept", "kept", "lost", "kept"))
        self.assertIsNone(rack.cell(0, 1))
        rack.replace(1)
        rack.replace(4)
        self.assertEqual(self.refused(rack, TooMany, rack.lose, 5), 3)
        self.assertEqual(rack.states(), ("kept", "raw", "kept", "kept", "raw", "kept"))

    def test_a_replaced_shelf_is_raw_with_zeros(self):
        rack = Rack(SHAPE, 2)
        put_row(rack, 0, ones(3, 4))
        put_row(rack, 1, ones(5, 6))
        rack.lose(2)
        rack.replace(2)
        self.assertEqual(rack.states(), ("kept", "kept", "raw", "kept", "kept", "kept"))
        self.assertEqual((rack.cell(0, 2), rack.cell(1, 2)), ((0,), (0,)))
        rack.put(0, 2, (6,))
        self.assertEqual(rack.cell(0, 2), (6,))
        self.assertIsNone(rack.left(0)[2])
        rack.lose(2)
        self.assertIsNone(rack.cell(0, 2))
        rack.replace(2)
        self.assertEqual(rack.cell(0, 2), (0,))

    def test_only_a_lost_shelf_is_replaced(self):
        rack = Rack(SHAPE, 1)
        self.assertEqual(self.refused(rack, NotLost, rack.replace, 2), 2)
        rack.lose(2)
        rack.replace(2)
        self.assertEqual(self.refused(rack, NotLost, rack.replace, 2), 2)


class Trust(Refusing):
    def test_raw_shelves_that_are_right_are_kept(self):
        rack = Rack(TWO, 2)
        rows = ((3, 1), (4, 1)), ((5, 9), (2, 6))
        for row in (0, 1):
            put_row(rack, row, rows[row])
        rack.lose(0)
        rack.lose(5)
        rack.replace(0)
        self.assertEqual(self.refused(rack, Unlike, rack.trust), 0)
        rack.put(0, 0, striped(TWO, rows[0])[0])
        self.assertEqual(self.refused(rack, Unlike, rack.trust), 1)
        rack.put(1, 0, striped(TWO, rows[1])[0])
        rack.trust()
        self.assertEqual(rack.states(), ("kept",) * 5 + ("lost",))
        rack.replace(5)
        for row in (0, 1):
            put_row(rack, row, rows[row])
        rack.trust()
        self.assertEqual(rack.states(), ("kept",) * 6)
        self.assertEqual(rack.left(1), striped(TWO, rows[1]))

    def test_a_raw_cell_that_is_wrong_in_its_second_number(self):
        rack = Rack(TWO, 1)
        put_row(rack, 0, ((3, 1), (4, 1)))
        rack.lose(4)
        rack.replace(4)
        rack.put(0, 4, (3, 2))
        self.assertEqual(self.refused(rack, Unlike, rack.trust), 0)
        rack.put(0, 4, (3, 1))
        rack.trust()

    def test_two_raw_shelves_of_which_one_is_wrong(self):
        for right, wrong in ((1, 4), (4, 1)):
            rack = Rack(TWO, 1)
            put_row(rack, 0, ((3, 1), (4, 1)))
            for shelf in (right, wrong):
                rack.lose(shelf)
                rack.replace(shelf)
            rack.put(0, right, striped(TWO, ((3, 1), (4, 1)))[right])
            self.assertEqual(self.refused(rack, Unlike, rack.trust), 0)

    def test_without_a_raw_shelf_it_only_looks(self):
        rack = Rack(SHAPE, 3)
        ahead = seen(rack)
        self.assertIsNone(rack.trust())
        self.assertEqual(seen(rack), ahead)
        rack.put(2, 1, (1,))
        self.assertEqual(self.refused(rack, Unwhole, rack.trust), 2)
        rack.put(1, 5, (1,))
        self.assertEqual(self.refused(rack, Unwhole, rack.trust), 1)

    def test_all_rows_are_whole_ahead_of_what_else_is_asked(self):
        rack = Rack(SHAPE, 3)
        put_row(rack, 0, ones(3, 4))
        rack.lose(0)
        rack.replace(0)
        self.assertEqual(self.refused(rack, Unlike, rack.trust), 0)
        rack.put(2, 5, (1,))
        self.assertEqual(self.refused(rack, Unwhole, rack.trust), 2)

    def test_what_told_raises_goes_through_row_by_row(self):
        rack = Rack((7, 1, 2, 1, 2, 0, ((1, 0),)), 2)
        rack.lose(2)
        self.assertEqual(self.refused(rack, Blind, rack.trust), (2,))
        rack.replace(2)
        self.assertEqual(self.refused(rack, Blind, rack.trust), (2,))
        rack.put(1, 0, (1,))
        self.assertEqual(self.refused(rack, Unwhole, rack.trust), 1)


if __name__ == "__main__":
    unittest.main()
