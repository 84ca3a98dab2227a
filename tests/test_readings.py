import unittest
from itertools import combinations

from helper import (ODD, both_ends, come_from, do_clash, ends_leaving, left_of, likelier_of, nested, ones, replaced,
                    striped, subsets, table_of, what_of)
from twicemany.errors import BadLeft, BadShape, Blind, Torn
from twicemany.finder import finder
from twicemany.leavings import fixed_ends, points_without
from twicemany.readings import is_whole, spread, told
from twicemany.stories import clash_right

SHAPE = (7, 1, 2, 2, 0, 0, ((6, 2), (5, 6), (3, 4)))
NO_SUMS = (7, 1, 2, 2, 0, 0, ())
FALLS = (7, 1, 3, 2, 0, 0, ((1, 0, 0), (0, 1, 0), (0, 0, 1)))
STAND = (
    SHAPE,
    (7, 1, 2, 2, 1, 0, ((2, 5), (4, 2), (6, 2), (5, 1))),
    (7, 1, 3, 2, 0, 0, ((2, 6, 3), (5, 6, 5), (4, 4, 5), (4, 3, 3))),
    (31, 1, 3, 2, 0, 1, ((8, 12, 18), (11, 29, 17), (26, 19, 17))),
    (5, 1, 2, 2, 0, 0, ((3, 1), (2, 2), (3, 4))),
)
# Each needs three stories to tell that no row is an end of all.
THREE = (
    ((5, 1, 3, 2, 0, 0, ((1, 1, 2), (3, 2, 1), (3, 4, 3), (4, 2, 2), (4, 1, 4))), (2, 1, 1, 3, 4, 0, 0, 0)),
    ((7, 1, 3, 2, 0, 0, ((2, 2, 4), (3, 3, 3), (6, 5, 6), (3, 6, 1), (6, 4, 4))), (3, 4, 2, 1, 3, 0, 0, 0)),
)


def found(p, n, k, e, manner, c):
    return p, 1, n, k, e, manner, finder(p, n, k, e, manner, c, 0, 200)[1]


def doubled(left):
    return tuple(None if cell is None else cell * 2 for cell in left)


class Examples(unittest.TestCase):
    def test_two_ends(self):
        left = ones(0, 3, 4, 3, 2)
        self.assertEqual(told(SHAPE, left), ones(1, 2))
        self.assertEqual(spread(SHAPE, left), (ones(1, 2), ones(3, 5)))

    def test_whole(self):
        left = ones(3, 3, 4, 1, 2)
        self.assertEqual(told(SHAPE, left), ones(1, 2))
        self.assertEqual(spread(SHAPE, left), (ones(1, 2),))
        self.assertIs(is_whole(SHAPE, left), True)

    def test_no_table(self):
        for a in range(7):
            for b in range(7):
                self.assertEqual(told(NO_SUMS, ones(a, b)), ones(a, b))
                self.assertEqual(spread(NO_SUMS, ones(a, b)), (ones(a, b),))
                self.assertIs(is_whole(NO_SUMS, ones(a, b)), True)
        self.assertEqual(what_of(self, Blind, told, NO_SUMS, ones(None, 3)), (0,))


class Whole(unittest.TestCase):
    def test_right_stripes_behind_each_loss(self):
        for shape in STAND + (FALLS, NO_SUMS, replaced(SHAPE, 1, 3), (5, 2, 3, 1, 0, 0, ((0, 0, 0),))):
            row = tuple(tuple((x * 3 + q + 1) % shape[0] for q in range(shape[1])) for x in range(shape[2]))
            full = striped(shape, row)
            for lost in subsets(range(len(full))):
                left = tuple(None if shelf in lost else cell for shelf, cell in enumerate(full))
                self.assertIs(is_whole(shape, left), True)

    def test_one_number_is_wrong(self):
        for shape in (SHAPE, STAND[2], replaced(SHAPE, 1, 3)):
            row = ((4,) * shape[1],) * shape[2]
            full = striped(shape, row)
            for at in range(len(full)):
                for place in range(shape[1]):
                    left = replaced(full, at, replaced(full[at], place, (full[at][place] + 1) % 7))
                    self.assertIs(is_whole(shape, left), False)

    def test_lost_cells_are_solved_for(self):
        self.assertIs(is_whole(SHAPE, ones(3, None, None, None, 2)), True)
        self.assertIs(is_whole(SHAPE, ones(3, 3, None, None, 2)), True)
        self.assertIs(is_whole(SHAPE, ones(3, 4, None, None, 2)), False)
        self.assertIs(is_whole(SHAPE, ones(3, 4, None, None, None)), True)
        self.assertIs(is_whole(SHAPE, ones(3, 4, 4, None, None)), False)
        self.assertIs(is_whole(SHAPE, (None,) * 5), True)
        # No worth of the lost cell tells in this sum.
        self.assertIs(is_whole((5, 1, 1, 1, 0, 0, ((0,),)), ones(0, None)), True)
        self.assertIs(is_whole((5, 1, 1, 1, 0, 0, ((0,),)), ones(1, None)), False)
        # Two places, of which one is wrong.
        wide = replaced(SHAPE, 1, 2)
        self.assertIs(is_whole(wide, ((3, 3), (3, 3), None, None, (2, 2))), True)
        self.assertIs(is_whole(wide, ((3, 3), (3, 4), None, None, (2, 2))), False)

    def test_the_judge_raises_nothing(self):
        for thing in ODD + (nested(50), tuple(range(9999)), "abcde"):
            self.assertIs(is_whole(thing, ones(3, 3, 4, 1, 2)), False)
            self.assertIs(is_whole(SHAPE, thing), False)
            self.assertIs(is_whole(thing, thing), False)
            for at in range(5):
                if thing is not None:
                    self.assertIs(is_whole(SHAPE, replaced(ones(3, 3, 4, 1, 2), at, thing)), False)
        self.assertIs(is_whole(replaced(SHAPE, 3, 3), ones(3, 3, 4, 1, 2)), False)
        self.assertIs(is_whole(SHAPE, ones(3, 3, 4, 1)), False)
        self.assertIs(is_whole(SHAPE, ones(3, 3, 4, 1, 2, 0)), False)
        self.assertIs(is_whole(SHAPE, ones(3, 3, 4, 1, 9)), False)
        self.assertIs(is_whole(SHAPE, (True, (3,), (4,), (1,), (2,))), False)
        self.assertIs(is_whole(SHAPE, ((3,), (3,), (4,), (True,), (2,))), False)


class BlindLosses(unittest.TestCase):
    def test_blind_is_asked_first(self):
        # Whole, or left by no story: what is lost can't be told, so nothing else is asked.
        self.assertEqual(what_of(self, Blind, told, SHAPE, (None,) * 5), (0, 1, 2, 3, 4))
        self.assertEqual(what_of(self, Blind, told, SHAPE, ones(None, None, 4, None, None)), (0, 1, 3, 4))
        self.assertEqual(what_of(self, Blind, told, SHAPE, ones(None, None, None, None, 2)), (0, 1, 2, 3))
        self.assertEqual(what_of(self, Blind, spread, SHAPE, (None,) * 5), (0, 1, 2, 3, 4))
        nought = (5, 1, 1, 1, 0, 0, ((0,),))
        self.assertEqual(what_of(self, Blind, told, nought, ones(1, None)), (1,))
        self.assertEqual(what_of(self, Blind, told, nought, ones(0, None)), (1,))

    def test_lost_sums_alone_are_never_blind(self):
        self.assertEqual(told(SHAPE, ones(None, None, None, 5, 6)), ones(5, 6))
        self.assertEqual(told(FALLS, ones(None, None, None, 5, 6, 0)), ones(5, 6, 0))

    def test_columns_that_are_not_free(self):
        shape = (7, 1, 3, 1, 0, 0, ((1, 2, 1), (2, 4, 3)))
        self.assertEqual(what_of(self, Blind, told, shape, ones(0, 0, None, None, 0)), (2, 3))
        self.assertEqual(told(shape, ones(0, 0, None, 0, None)), ones(0, 0, 0))
        self.assertEqual(what_of(self, Blind, told, shape, ones(None, 0, None, 0, None)), (0, 2, 4))


class Choices(unittest.TestCase):
    def test_more_agree(self):
        shape = (5, 1, 1, 1, 0, 0, ((1,), (1,), (1,)))
        self.assertEqual(told(shape, ones(3, 3, 1, 1)), ones(1))
        self.assertEqual(told(shape, ones(3, 3, 3, 1)), ones(3))
        self.assertEqual(told(shape, ones(3, 3, 1, None)), ones(3))
        self.assertEqual(told(shape, ones(3, None, 1, None)), ones(1))
        self.assertEqual(spread(shape, ones(3, None, 1, None)), (ones(1), ones(3)))

    def test_waited_the_cells_tell_first(self):
        shape = (5, 1, 1, 1, 0, 1, ((1,), (1,), (1,)))
        self.assertEqual(told(shape, ones(3, 3, 1, 1)), ones(1))
        self.assertEqual(told(shape, ones(3, 3, 3, 1)), ones(1))
        # No cell is kept, so each kept cell lies as both have it.
        self.assertEqual(told(shape, ones(3, 3, 1, None)), ones(1))
        self.assertEqual(told(shape, ones(1, 3, 3, None)), ones(1))

    def test_waited_the_sums_tell_of_cells_that_came(self):
        shape = replaced(SHAPE, 5, 1)
        for ahead, behind in ((ones(1, 2), ones(3, 5)), (ones(3, 5), ones(1, 2))):
            sent = striped(SHAPE, behind)[:3] + ahead
            self.assertEqual(spread(shape, sent), (ones(1, 2), ones(3, 5)))
            self.assertEqual(told(shape, sent), ahead)
            # Where a cell came, anything may have been there ahead.
            for came in (replaced(sent, 3, behind[0]), replaced(sent, 4, behind[1])):
                self.assertEqual(spread(shape, came), (behind,))
                self.assertEqual(told(shape, came), behind)

    def test_no_story(self):
        self.assertIsNone(told(STAND[4], ones(0, 0, 1, 3, 4)))
        self.assertEqual(spread(STAND[4], ones(0, 0, 1, 3, 4)), ())
        # At each place alone there are stories, but not with the same sums that came.
        shape = (5, 1, 1, 1, 0, 0, ((1,), (1,)))
        self.assertEqual(told(shape, ones(0, 1, None)), ones(0))
        wide = replaced(shape, 1, 2)
        self.assertEqual(spread(wide, ((0, 1), (1, 0), None)), (((0, 1),), ((1, 0),)))
        self.assertEqual(spread(wide, ((0, 0), (1, 0), None)), (((0, 0),), ((1, 0),)))
        three = (5, 2, 1, 1, 0, 0, ((1,), (1,), (1,)))
        self.assertIsNone(told(three, ((0, 0), (1, 0), (0, 1), None)))
        self.assertEqual(spread(three, ((0, 0), (1, 0), (0, 1), None)), ())

    def test_a_whole_one_is_told_where_stories_clash(self):
        self.assertEqual(told(FALLS, ones(0, 0, 0, 0, 0, 0)), ones(0, 0, 0))
        self.assertEqual(spread(FALLS, ones(0, 0, 0, 0, 0, 0)), (ones(0, 0, 0),))


class TornRows(unittest.TestCase):
    def torn(self, shape, left):
        lost = tuple(at for at, cell in enumerate(left) if cell is None)
        stories = what_of(self, Torn, told, shape, left)
        self.assertTrue(do_clash(shape, lost, stories), (shape, left, stories))
        self.assertEqual(left_of(shape, stories[0], lost), left)
        self.assertEqual(clash_right(shape, lost, stories), len(lost) <= shape[4])
        self.assertEqual(what_of(self, Torn, spread, shape, left), stories)
        return stories

    def test_sums_that_came_of_too_little(self):
        for manner in (0, 1):
            for wide in (1, 2):
                left = ones(1, 0, 0, 0, 0, 0) if wide == 1 else doubled(ones(1, 0, 0, 0, 0, 0))
                self.torn(replaced(replaced(FALLS, 5, manner), 1, wide), left)

    def test_three_stories(self):
        for shape, numbers in THREE:
            self.assertEqual(len(self.torn(shape, ones(*numbers))), 3)
            self.assertEqual(len(self.torn(replaced(shape, 1, 2), doubled(ones(*numbers)))), 3)

    def test_with_losses(self):
        shape = (7, 1, 3, 2, 1, 0, ((1, 0, 0), (0, 1, 0), (0, 0, 1)))
        self.torn(shape, ones(1, 0, None, 0, 0, 0))
        self.torn(shape, ones(1, 2, 3, None, 0, 0))
        self.torn(shape, ones(1, None, None, 0, 0, 0))
        self.torn(replaced(FALLS, 5, 1), ones(1, 0, None, 0, 0, 0))

    def test_equal_calls_tell_the_same(self):
        for shape, numbers in THREE:
            again = shape[:6] + (tuple(tuple(list(row)) for row in shape[6]),)
            left = ones(*numbers)
            self.assertEqual(what_of(self, Torn, told, shape, left), what_of(self, Torn, told, again, left))


class Moves(unittest.TestCase):
    def test_points_that_are_not_on_a_row(self):
        """One cell, no sums, p 5: a vector is the number ahead and the number behind."""
        frame = (5, 0, 1, [])
        for ahead in range(5):
            for behind in range(5):
                for a in range(5):
                    for b in range(5):
                        space = [[ahead, behind]], [[a, b]]
                        row = ((0,),)
                        if row not in fixed_ends(space, frame):
                            points = points_without(row, [space], frame)
                            self.assertTrue(all(points[0]), (space, points))
        two = [[0, 0]], [[1, 0], [0, 1]]
        self.assertTrue(all(points_without(((0,),), [([[0, 1]], [[0, 1]]), two], frame)[0]))


class Standing(unittest.TestCase):
    def test_an_end_is_told(self):
        more = (found(1009, 3, 2, 1, 0, 5), found(1009, 2, 1, 2, 0, 4), found(1000003, 2, 2, 2, 0, 6),
                found(1000003, 3, 3, 0, 0, 6), found(1009, 4, 2, 0, 0, 4), found(1009, 3, 3, 0, 1, 5),
                found(1009, 4, 2, 0, 1, 3), found(31, 8, 1, 0, 0, 2))
        for shape in STAND + more:
            for wide in (1, 3):
                for seed, lost in enumerate(self.losses(shape)):
                    self.hold(replaced(shape, 1, wide), lost, seed)

    def losses(self, shape):
        shelves = range(len(shape[6]) + shape[2])
        return [lost for size in range(shape[4] + 1) for lost in combinations(shelves, size)]

    def hold(self, shape, lost, seed):
        for story in come_from(shape, seed, 12):
            left = left_of(shape, story, lost)
            rows = spread(shape, left)
            self.assertIn(told(shape, left), both_ends(story))
            self.assertTrue(set(rows) <= set(both_ends(story)))
            self.assertEqual(told(shape, left), likelier_of(shape, left, rows))


class Lists(unittest.TestCase):
    """Left stripes of cells of several numbers and of three cells, each against the list of its stories."""

    def hold(self, shape, left):
        lost = tuple(at for at, cell in enumerate(left) if cell is None)
        try:
            rows = spread(shape, left)
        except Blind:
            self.assertTrue(any(at >= len(shape[6]) for at in lost))
            return "blind"
        except Torn as error:
            self.assertTrue(do_clash(shape, lost, error.what))
            self.assertEqual(left_of(shape, error.what[0], lost), left)
            self.assertEqual(set.intersection(*ends_leaving(shape, left)), set())
            return "torn"
        pairs = ends_leaving(shape, left)
        whole = [pair for pair in pairs if len(pair) == 1]
        listed = whole[0] if whole else set.intersection(*pairs) if pairs else set()
        self.assertEqual(rows, tuple(sorted(listed)), (shape, left))
        self.assertEqual(told(shape, left), likelier_of(shape, left, rows) if rows else None)
        self.assertIs(is_whole(shape, left), bool(whole))
        return len(rows)

    def hold_many(self, shape, losses, seed):
        """Hold what stories leave, and the same with one number wrong; return what came of it."""
        answers = set()
        for lost in losses:
            for at, story in enumerate(come_from(shape, seed, 6)):
                left = left_of(shape, story, lost)
                answers.add(self.hold(shape, left))
                wrong = at % len(left)
                if left[wrong] is not None:
                    cell = (0,) * shape[1] if at % 2 else replaced(left[wrong], 0, (left[wrong][0] + 1) % shape[0])
                    answers.add(self.hold(shape, replaced(left, wrong, cell)))
        return answers

    def test_three_cells(self):
        answers = {0: set(), 1: set()}
        for manner in (0, 1):
            for k in (1, 2, 3):
                for c in (1, 2, 3, 4, 5):
                    shape = (5, 1, 3, k, 0, manner, table_of(k + c, 5, 3, c, c % 2))
                    losses = ((), (0,), (c,), (c - 1, c + 1), (c, c + 2))
                    answers[manner] |= self.hold_many(shape, losses, c)
        for manner in (0, 1):
            self.assertEqual(answers[manner], {0, 1, 2, "torn", "blind"})

    def test_two_numbers_in_a_cell(self):
        answers = {0: set(), 1: set()}
        for manner in (0, 1):
            for k in (1, 2):
                for c in (1, 2, 3):
                    shape = (5, 2, 2, k, 0, manner, table_of(k + c, 5, 2, c))
                    answers[manner] |= self.hold_many(shape, ((), (0,), (c,)), c)
        for manner in (0, 1):
            self.assertEqual(answers[manner], {0, 1, 2, "torn"})

    def test_all_cells_lost(self):
        answers = set()
        for manner in (0, 1):
            for c in (2, 3, 4):
                shape = (5, 1, 2, 2, 0, manner, table_of(c, 5, 2, c))
                for seed in range(4):
                    answers |= self.hold_many(shape, ((c, c + 1),), seed)
        self.assertTrue({2, "torn", 0} & answers)
        self.assertIn(1, answers)


class Wrong(unittest.TestCase):
    def test_the_shape_then_the_left_stripe(self):
        for call in (told, spread):
            self.assertEqual(what_of(self, BadShape, call, None, None), -1)
            self.assertEqual(what_of(self, BadShape, call, replaced(SHAPE, 3, 3), None), 3)
            for thing in (None, True, 5, "abcde", (), ones(1, 2), (None,) * 4, (None,) * 6, nested(50)):
                self.assertEqual(what_of(self, BadLeft, call, SHAPE, thing), -1)
            for at in range(5):
                for thing in (3, True, (), (7,), (-1,), (1, 1), (True,), "a", ((1,),)):
                    wrong = replaced(replaced(ones(3, None, 4, 1, 2), 4, thing), at, thing)
                    self.assertEqual(what_of(self, BadLeft, call, SHAPE, wrong), at)

    def test_a_wrong_cell_of_a_blind_loss(self):
        self.assertEqual(what_of(self, BadLeft, told, NO_SUMS, (None, (7,))), 1)


if __name__ == "__main__":
    unittest.main()
