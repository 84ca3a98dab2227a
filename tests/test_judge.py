import unittest
from itertools import product

from helper import ODD, do_clash, nested, numbers_from, replaced, subsets, table_of, what_of
from twicemany.errors import BadShape, BadShelf
from twicemany.judge import clash_in, first_clash, safe, stands
from twicemany.shapes import is_shape
from twicemany.stories import clash_right

STAND = (
    (7, 1, 2, 2, 0, 0, ((6, 2), (5, 6), (3, 4))),
    (7, 1, 2, 2, 1, 0, ((2, 5), (4, 2), (6, 2), (5, 1))),
    (7, 1, 3, 2, 0, 0, ((2, 6, 3), (5, 6, 5), (4, 4, 5), (4, 3, 3))),
    (31, 1, 3, 2, 0, 1, ((8, 12, 18), (11, 29, 17), (26, 19, 17))),
    (5, 1, 2, 2, 0, 0, ((3, 1), (2, 2), (3, 4))),
)
# No two stories clash behind these losses, but three do.
THREE = (
    ((5, 1, 3, 2, 0, 0, ((1, 1, 2), (3, 2, 1), (3, 4, 3), (4, 2, 2), (4, 1, 4))), ()),
    ((7, 1, 3, 2, 0, 0, ((2, 2, 4), (3, 3, 3), (6, 5, 6), (3, 6, 1), (6, 4, 4))), ()),
    ((31, 1, 3, 2, 0, 0, ((30, 2, 30), (30, 2, 1), (2, 1, 1), (30, 1, 2), (1, 1, 1))), ()),
    ((5, 1, 3, 2, 1, 0, ((3, 4, 4), (3, 3, 2), (3, 4, 3), (1, 2, 4), (2, 3, 4), (3, 2, 2))), (5,)),
)
# Of these only stories clash of which each has a cell that came and one that did not.
MIXED = (
    (101, 1, 4, 2, 0, 0, ((92, 9, 73, 8), (80, 27, 64, 88), (69, 55, 100, 41), (60, 75, 59, 47))),
    (101, 1, 3, 2, 0, 1, ((100, 1, 2), (0, 1, 1), (1, 1, 100))),
    (5, 1, 4, 2, 0, 0, ((4, 4, 2, 3), (2, 2, 2, 2), (1, 3, 1, 4), (3, 2, 4, 3), (1, 3, 2, 2), (3, 1, 3, 1))),
    (7, 1, 3, 2, 0, 0, ((5, 3, 6), (1, 1, 6), (2, 1, 1), (3, 3, 3), (3, 3, 2), (4, 5, 5))),
)
FALLS = (7, 1, 3, 2, 0, 0, ((1, 0, 0), (0, 1, 0), (0, 0, 1)))


def many_shapes(count):
    """Shapes of all sorts, the same ones each time."""
    told = numbers_from(5, 0, 1000002)
    for _ in range(count):
        n = 1 + next(told) % 4
        k = 1 + next(told) % min(n, 3)
        p = (5, 7, 11, 31, 1009, 1000003)[next(told) % 6]
        c = next(told) % 7
        e = next(told) % 2 if n < 4 and k < 3 and c < 6 else 0
        manner = next(told) % 2 if e == 0 else 0
        yield (p, 1, n, k, e, manner, table_of(next(told), p, n, c, next(told) % 2))


def losses(shape):
    return subsets(range(len(shape[6]) + shape[2]))


class Told(unittest.TestCase):
    def clash(self, shape, lost, stories):
        """Hold told stories against [10], but for the number of losses."""
        self.assertTrue(do_clash(shape, lost, stories), (shape, lost, stories))
        if shape[5] == 0:
            self.assertIs(clash_right(shape, lost, stories), len(lost) <= shape[4])
        elif lost == ():
            self.assertIs(clash_right(shape, lost, stories), True)

    def agree(self, shape):
        """Hold stands and first_clash against each other; return whether the shape stands."""
        told = first_clash(shape)
        self.assertIs(stands(shape), told is None)
        if told is not None:
            lost, stories = told
            self.assertTrue(len(lost) <= shape[4])
            self.assertTrue(clash_right(shape, lost, stories))
            self.clash(shape, lost, stories)
            self.assertFalse(safe(shape, lost))
        return told is None


class Tables(Told):
    def test_the_tables_that_stand(self):
        for shape in STAND:
            self.assertIs(stands(shape), True)
            self.assertIsNone(first_clash(shape))
            for lost in losses(shape):
                if len(lost) <= shape[4]:
                    self.assertIs(safe(shape, lost), True)
                    self.assertIsNone(clash_in(shape, lost))

    def test_a_table_with_too_few_sums(self):
        self.assertIs(stands(FALLS), False)
        lost, stories = first_clash(FALLS)
        self.assertEqual(lost, ())
        self.assertTrue(clash_right(FALLS, lost, stories))

    def test_with_k_one_and_no_loss_each_shape_stands(self):
        for n, c, manner in product(range(1, 9), (0, 1, 4), (0, 1)):
            for table in (table_of(n, 5, n, c, 0), ((0,) * n,) * c):
                self.assertIs(stands((5, 1, n, 1, 0, manner, table)), True)

    def test_waited_is_not_at_once(self):
        waited = STAND[3]
        self.assertIs(stands(replaced(waited, 5, 0)), False)
        self.assertIs(stands(replaced(STAND[2], 5, 1)), True)

    def test_with_too_few_sums_no_table_stands(self):
        for seed in range(6):
            for n, k, e, p in ((3, 2, 0, 31), (4, 2, 0, 1000003), (3, 2, 1, 1009), (3, 2, 2, 101), (5, 3, 0, 1000003)):
                for c in range(e + 2 * k):
                    shape = (p, 1, n, k, e, 0, table_of(seed, p, n, c, seed % 2))
                    self.assertIs(self.agree(shape), False)
                for c in range(2 * k - 1 if e == 0 else 0):
                    shape = (p, 1, n, k, 0, 1, table_of(seed, p, n, c, seed % 2))
                    if c < 2 * k - 1:
                        self.assertIs(self.agree(shape), False)

    def test_with_enough_sums_there_is_one_for_a_great_prime(self):
        p = 1000003
        for n, k, e in ((3, 2, 0), (4, 2, 0), (2, 2, 0), (3, 3, 0), (2, 2, 1), (3, 2, 1), (3, 1, 1), (3, 1, 2)):
            shapes = [(p, 1, n, k, e, 0, table_of(seed, p, n, e + 2 * k)) for seed in range(5)]
            self.assertTrue(any(self.agree(shape) for shape in shapes), (n, k, e))
        for n, k in ((3, 2), (4, 2), (3, 3)):
            shapes = [(p, 1, n, k, 0, 1, table_of(seed, p, n, 2 * k - 1)) for seed in range(5)]
            self.assertTrue(any(self.agree(shape) for shape in shapes), (n, k))

    def test_all_agree_for_many_shapes(self):
        stood = sum(self.agree(shape) for shape in many_shapes(250))
        self.assertTrue(50 < stood < 200, stood)

    def test_a_shape_stands_just_if_its_losses_are_safe(self):
        for e in (0, 1, 2):
            for seed in range(6):
                for n, k in ((1, 1), (2, 1), (2, 2)):
                    for c in (e + 2 * k - 1, e + 2 * k):
                        shape = (31, 1, n, k, e, 0, table_of(seed, 31, n, c, seed % 2))
                        all_safe = all([safe(shape, lost) for lost in losses(shape) if len(lost) <= e])
                        self.assertIs(self.agree(shape), all_safe)


class Losses(Told):
    def test_each_loss(self):
        for shape in STAND + (FALLS, (5, 1, 2, 1, 1, 0, ()), (5, 2, 3, 3, 0, 1, table_of(3, 5, 3, 5))):
            for lost in losses(shape):
                stories = clash_in(shape, lost)
                self.assertIs(safe(shape, lost), stories is None)
                if stories is not None:
                    self.clash(shape, lost, stories)

    def test_what_clashes_does_so_behind_each_greater_loss(self):
        for shape in (STAND[0], STAND[2], STAND[3], FALLS, (31, 1, 3, 1, 1, 0, table_of(2, 31, 3, 4))):
            told = {lost: safe(shape, lost) for lost in losses(shape)}
            for lost, is_safe in told.items():
                for more in told:
                    if set(lost) < set(more) and not is_safe:
                        self.assertFalse(told[more])

    def test_a_loss_of_all_cells_or_of_all(self):
        for shape in STAND:
            shelves = tuple(range(len(shape[6]) + shape[2]))
            self.assertIs(safe(shape, shelves), False)
            self.clash(shape, shelves, clash_in(shape, shelves))
        # A lost cell is told by each of its sums, and two of them tell no more than two ends.
        self.assertIs(safe((5, 1, 1, 1, 0, 0, ((1,), (1,), (1,))), (3,)), True)
        self.assertIs(safe((5, 1, 1, 1, 0, 0, ((1,),)), (1,)), True)
        self.assertIs(safe((5, 1, 1, 1, 0, 0, ((0,),)), (1,)), False)
        self.assertIs(safe((5, 1, 1, 1, 0, 0, ((1,),)), (0, 1)), False)
        self.assertIs(safe((5, 1, 1, 1, 0, 0, ()), ()), True)
        self.assertIs(safe((5, 1, 1, 1, 0, 0, ()), (0,)), False)

    def test_three_stories(self):
        for shape, lost in THREE:
            self.assertIs(safe(shape, lost), False)
            stories = clash_in(shape, lost)
            self.assertEqual(len(stories), 3)
            self.clash(shape, lost, stories)
            self.assertFalse(self.agree(shape))

    def test_stories_with_cells_that_came_and_cells_that_did_not(self):
        for shape in MIXED:
            self.assertFalse(self.agree(shape))
            self.clash(shape, (), clash_in(shape, ()))

    def test_how_wide_cells_are_does_not_matter(self):
        for shape in STAND + (FALLS, THREE[0][0]):
            told = stands(shape)
            for wide in (2, 3, 16):
                self.assertIs(self.agree(replaced(shape, 1, wide)), told)
        for lost in losses(STAND[0]):
            self.assertIs(safe(replaced(STAND[0], 1, 4), lost), safe(STAND[0], lost))

    def test_equal_calls_tell_the_same(self):
        for shape in (FALLS, THREE[0][0], replaced(STAND[3], 5, 0)):
            again = (shape[0], shape[1], shape[2], shape[3], shape[4], shape[5], tuple(tuple(r) for r in shape[6]))
            self.assertEqual(first_clash(shape), first_clash(again))
            for lost in losses(shape):
                self.assertEqual(clash_in(shape, lost), clash_in(again, lost))


class Wrong(unittest.TestCase):
    def test_the_judges_raise_nothing(self):
        for thing in ODD + (nested(50), tuple(range(9999)), "abc"):
            self.assertIs(stands(thing), False)
            self.assertIs(safe(thing, ()), False)
            self.assertIs(safe(thing, thing), False)
            self.assertIs(safe(STAND[0], thing), thing == ())
            for at in range(7):
                wrong = replaced(STAND[0], at, thing)
                if not is_shape(wrong):
                    self.assertIs(stands(wrong), False)
                    self.assertIs(safe(wrong, ()), False)

    def test_what_is_no_rising_tuple_of_shelves(self):
        for lost in (None, True, 0, "", [], (5,), (-1,), (1, 0), (0, 0), (True,), (False,), (None,), ((0,),), (0, "1")):
            self.assertIs(safe(STAND[0], lost), False)
            self.assertEqual(what_of(self, BadShelf, clash_in, STAND[0], lost), -1)

    def test_the_shape_is_checked_first(self):
        self.assertEqual(what_of(self, BadShape, clash_in, None, None), -1)
        self.assertEqual(what_of(self, BadShape, clash_in, replaced(STAND[0], 3, 3), None), 3)
        self.assertEqual(what_of(self, BadShape, first_clash, replaced(STAND[1], 5, 1)), 5)
        self.assertEqual(what_of(self, BadShape, first_clash, (7, 1, 2, 2, 0, 0, ((6, 7),))), 6)
        self.assertIs(stands(replaced(STAND[1], 5, 1)), False)
        self.assertIs(stands((7, 1, 1, 1, 0, 0, ((7,),))), False)


if __name__ == "__main__":
    unittest.main()
