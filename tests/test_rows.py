import unittest

from helper import every_row, nested, ones, replaced, striped, table_of, what_of
from twicemany.errors import BadLeft, BadRow, BadShape
from twicemany.rows import lost_of, made_left, made_row, stripe, sums

SHAPE = (7, 1, 2, 2, 0, 0, ((6, 2), (5, 6), (3, 4)))
WIDE = (5, 3, 2, 1, 0, 0, ((1, 2), (3, 4), (0, 0)))
NO_SUMS = (7, 2, 3, 2, 0, 0, ())
NO_CELLS = (None, True, 3, "", "ab", (), (1, 1), (None,), (True,), ("1",), (7,), (-1,), ((1,),), (10 ** 900,), [1])


class Rows(unittest.TestCase):
    def test_rows_are_returned(self):
        for row in every_row(SHAPE):
            self.assertEqual(made_row(SHAPE, row), row)
        row = ((0, 4, 1), (2, 2, 2))
        self.assertEqual(made_row(WIDE, row), row)

    def test_what_is_no_tuple_of_n(self):
        for thing in (None, True, 2, "ab", (), ((1,),), ((1,),) * 3, [(1,), (2,)], nested(50)):
            self.assertEqual(what_of(self, BadRow, made_row, SHAPE, thing), -1)

    def test_the_first_that_is_no_cell(self):
        for thing in NO_CELLS:
            self.assertEqual(what_of(self, BadRow, made_row, SHAPE, (thing, (1,))), 0)
            self.assertEqual(what_of(self, BadRow, made_row, SHAPE, ((1,), thing)), 1)
            self.assertEqual(what_of(self, BadRow, made_row, SHAPE, (thing, thing)), 0)
        for thing in ((1, 2), (1, 2, 3, 4), (1, 2, 5), (1, -1, 2), (1, True, 2)):
            self.assertEqual(what_of(self, BadRow, made_row, WIDE, ((0, 0, 0), thing)), 1)

    def test_the_shape_is_checked_first(self):
        for call in (made_row, sums, stripe, made_left):
            self.assertEqual(what_of(self, BadShape, call, None, None), -1)
            self.assertEqual(what_of(self, BadShape, call, replaced(SHAPE, 4, 3), None), 4)


class Sums(unittest.TestCase):
    def test_the_examples(self):
        self.assertEqual(sums(SHAPE, ones(1, 2)), ones(3, 3, 4))
        self.assertEqual(stripe(SHAPE, ones(1, 2)), ones(3, 3, 4, 1, 2))
        self.assertEqual(stripe(SHAPE, ones(3, 5)), ones(0, 3, 1, 3, 5))

    def test_wide_cells_are_summed_place_by_place(self):
        row = ((0, 4, 1), (2, 2, 3))
        self.assertEqual(sums(WIDE, row), ((4, 3, 2), (3, 0, 0), (0, 0, 0)))
        self.assertEqual(stripe(WIDE, row), ((4, 3, 2), (3, 0, 0), (0, 0, 0)) + row)

    def test_no_sums(self):
        row = ((1, 2), (3, 4), (5, 6))
        self.assertEqual(sums(NO_SUMS, row), ())
        self.assertEqual(stripe(NO_SUMS, row), row)

    def test_all_rows_of_some_shapes(self):
        for seed, (p, wide, n, c) in enumerate(((5, 1, 3, 4), (7, 1, 2, 8), (5, 2, 2, 3), (5, 1, 1, 1))):
            shape = (p, wide, n, 1, 0, 0, table_of(seed, p, n, c, 0))
            for row in every_row(shape):
                self.assertEqual(stripe(shape, row), striped(shape, row))
                self.assertEqual(sums(shape, row), striped(shape, row)[:c])

    def test_the_greatest_numbers(self):
        shape = (1000003, 16, 8, 3, 2, 0, ((1000002,) * 8,) * 8)
        row = ((1000002,) * 16,) * 8
        self.assertEqual(sums(shape, row), ((8,) * 16,) * 8)
        self.assertEqual(len(stripe(shape, row)), 16)

    def test_what_is_no_row(self):
        for call in (sums, stripe):
            self.assertEqual(what_of(self, BadRow, call, SHAPE, None), -1)
            self.assertEqual(what_of(self, BadRow, call, SHAPE, ((1,),)), -1)
            self.assertEqual(what_of(self, BadRow, call, SHAPE, ((1,), (7,))), 1)
            self.assertEqual(what_of(self, BadRow, call, SHAPE, ((True,), (7,))), 0)


class Left(unittest.TestCase):
    def test_left_stripes_are_returned(self):
        for left in (ones(3, 3, 4, 1, 2), ones(0, 0, 0, 6, None), ones(None, 3, None, 1, 2), (None,) * 5):
            self.assertEqual(made_left(SHAPE, left), left)
        self.assertEqual(made_left(NO_SUMS, ((1, 2), None, (3, 4))), ((1, 2), None, (3, 4)))

    def test_what_is_no_tuple_of_all_shelves(self):
        for thing in (None, True, 5, "abcde", (), ones(1, 2), (None,) * 4, (None,) * 6, list(ones(1, 2, 3, 4, 5))):
            self.assertEqual(what_of(self, BadLeft, made_left, SHAPE, thing), -1)

    def test_the_first_that_is_neither_a_cell_nor_none(self):
        left = ones(3, None, 4, 1, 2)
        for at in range(5):
            for thing in NO_CELLS[1:]:
                wrong = replaced(replaced(left, 4, thing), at, thing)
                self.assertEqual(what_of(self, BadLeft, made_left, SHAPE, wrong), at)

    def test_what_is_lost(self):
        self.assertEqual(lost_of(()), ())
        self.assertEqual(lost_of(ones(3, 3, 4)), ())
        self.assertEqual(lost_of(ones(None, 3, None, 0)), (0, 2))
        self.assertEqual(lost_of((None,) * 4), (0, 1, 2, 3))


if __name__ == "__main__":
    unittest.main()
