import unittest

from helper import (ODD, both_ends, do_clash, every_story, is_story_of, left_of, nested, replaced, subsets, table_of,
                    what_of)
from twicemany.errors import BadShape, BadShelf, BadStory
from twicemany.stories import clash_right, ends, is_story, left_by, made_story

SHAPE = (7, 1, 2, 2, 0, 0, ((6, 2), (5, 6), (3, 4)))
WAITED = replaced(SHAPE, 5, 1)
THREE = (7, 1, 3, 2, 0, 0, ((1, 0, 0), (0, 1, 0), (0, 0, 1)))
WIDE = (5, 2, 3, 2, 1, 0, ((1, 2, 3),))
ROW = ((1,), (2,))
BOTH = ((0, (3,)), (1, (5,)))
STORY = (ROW, BOTH, (0, 3))
REST = (ROW, (), (0, 2))

REST_OF_19 = (((0,), (0,), (0,)), (), (0, 1, 2))
MOVE_OF_19 = (((0,), (6,), (0,)), ((1, (0,)), (2, (6,))), (0, 1, 4))

NO_CHANGES = (
    None, True, 0, "ab", [], (None,), (0,), ((0,),), ((0, (3,), 1),), ([0, (3,)],), ((2, (3,)),), ((-1, (3,)),),
    ((True, (3,)),), ((False, (3,)),), (("0", (3,)),), ((None, (3,)),), ((0, 3),), ((0, (7,)),), ((0, (-1,)),),
    ((0, (3, 3)),), ((0, ()),), ((0, None),), ((0, (True,)),), ((0, (1,)),), ((1, (2,)),), ((0, (3,)), (1, (2,))),
    ((1, (5,)), (0, (3,))), ((0, (3,)), (0, (4,))), ((0, (3,)), (1, (5,)), (2, (5,))), (0, (3,)),
)
NO_CAME = (
    None, True, 0, "ab", [], (None,), (True,), (False,), ("0",), ((0,),), (-1,), (5,), (0, 0), (1, 0), (3, 0),
    (0, 1, 2, 3, 4, 5), (0.5,), (10 ** 900,),
)


class Made(unittest.TestCase):
    def right(self, shape, story):
        self.assertEqual(made_story(shape, story), story)
        self.assertIs(is_story(shape, story), True)

    def wrong(self, shape, thing, what):
        self.assertEqual(what_of(self, BadStory, made_story, shape, thing), what, thing)
        self.assertIs(is_story(shape, thing), False)

    def test_stories_are_returned(self):
        for story in (STORY, REST, (ROW, (), ()), (ROW, BOTH, (0, 1, 2, 3, 4)), (ROW, BOTH[:1], (3,))):
            self.right(SHAPE, story)
        self.right(THREE, REST_OF_19)
        self.right(THREE, MOVE_OF_19)
        self.right(WIDE, (((0, 1), (2, 3), (4, 4)), ((0, (0, 2)), (2, (4, 3))), (0, 1, 3)))
        self.right((5, 1, 1, 1, 0, 0, ()), (((0,),), ((0, (4,)),), (0,)))

    def test_what_is_no_triple(self):
        for thing in ODD[:-1] + (STORY[:2], STORY + ((),), list(STORY), nested(50), "abc"):
            self.wrong(SHAPE, thing, -1)

    def test_the_row(self):
        for row in (None, 0, True, "ab", (), ((1,),), ((1,), (7,)), ((1,), (True,)), ((1,), 2), nested(49)):
            self.wrong(SHAPE, (row, (), ()), 0)
            self.wrong(SHAPE, (row, None, None), 0)

    def test_the_changes(self):
        for changes in NO_CHANGES:
            self.wrong(SHAPE, (ROW, changes, ()), 1)
            self.wrong(SHAPE, (ROW, changes, None), 1)

    def test_a_change_to_the_same_is_none(self):
        self.wrong(SHAPE, (ROW, ((0, (1,)),), ()), 1)
        self.right(SHAPE, (ROW, ((0, (2,)),), ()))
        self.wrong(WIDE, (((0, 1), (2, 3), (4, 4)), ((1, (2, 3)),), ()), 1)
        self.right(WIDE, (((0, 1), (2, 3), (4, 4)), ((1, (2, 2)),), ()))

    def test_no_more_than_k_changes(self):
        row = ((0,), (0,), (0,), (0,))
        every = tuple((x, (1,)) for x in range(4))
        for k in (1, 2, 3):
            shape = (5, 1, 4, k, 0, 0, ((1, 1, 1, 1),))
            for many in range(5):
                if many <= k:
                    self.right(shape, (row, every[:many], ()))
                else:
                    self.wrong(shape, (row, every[:many], ()), 1)

    def test_what_came(self):
        for came in NO_CAME:
            self.wrong(SHAPE, (ROW, BOTH, came), 2)
        self.wrong(SHAPE, (ROW, BOTH[:1], (4,)), 2)
        self.wrong(SHAPE, (ROW, BOTH[1:], (0, 3)), 2)
        self.wrong(SHAPE, (ROW, (), (3,)), 2)

    def test_a_sum_that_does_not_change_may_have_come(self):
        shape = (7, 1, 2, 2, 0, 0, ((1, 0), (0, 0)))
        for came in ((), (0,), (1,), (0, 1)):
            self.right(shape, (ROW, (), came))
            self.right(shape, (ROW, BOTH[1:], came))
            self.right(replaced(shape, 5, 1), (ROW, BOTH[1:], came))

    def test_waited_no_cell_comes_ahead_of_a_sum(self):
        for of_sums in subsets(range(3)):
            for of_cells in subsets((3, 4)):
                story = (ROW, BOTH, of_sums + of_cells)
                self.right(SHAPE, story)
                if of_cells == () or len(of_sums) == 3:
                    self.right(WAITED, story)
                else:
                    self.wrong(WAITED, story, 2)
        self.right((5, 1, 1, 1, 0, 1, ()), (((0,),), ((0, (4,)),), (0,)))

    def test_all_stories_and_no_others(self):
        for shape in ((5, 1, 2, 1, 0, 0, ((1, 2),)), (5, 1, 2, 2, 0, 1, ((1, 2), (0, 3)))):
            many = 0
            for story in every_story(shape):
                self.assertTrue(is_story(shape, story))
                many += 1
            told = 0
            cells = [(number,) for number in range(5)]
            for changes in subsets([(x, cell) for x in range(2) for cell in cells]):
                for came in subsets(range(2 + len(shape[6]))):
                    story = (((1,), (2,)), changes, came)
                    self.assertIs(is_story(shape, story), is_story_of(shape, story))
                    told += is_story_of(shape, story)
            self.assertEqual(many, 25 * told)

    def test_the_shape_is_checked_first(self):
        self.assertEqual(what_of(self, BadShape, made_story, None, None), -1)
        self.assertEqual(what_of(self, BadShape, made_story, (7, 1, 1, 2, 0, 0, ()), None), 3)
        self.assertEqual(what_of(self, BadShape, left_by, (7, 1, 2, 2, 1, 1, ()), None, None), 5)

    def test_the_judge_raises_nothing(self):
        for thing in ODD + (nested(50), tuple(range(9999))):
            self.assertIs(is_story(thing, STORY), False)
            self.assertIs(is_story(SHAPE, thing), False)
            self.assertIs(is_story(thing, thing), False)
            for at in range(3):
                is_story(SHAPE, replaced(STORY, at, thing))


class Ends(unittest.TestCase):
    def test_both_ends(self):
        self.assertEqual(ends(STORY), (ROW, ((3,), (5,))))
        self.assertEqual(ends((ROW, BOTH[1:], (4,))), (ROW, ((1,), (5,))))
        self.assertEqual(ends(MOVE_OF_19), (((0,), (6,), (0,)), ((0,), (0,), (6,))))

    def test_at_rest_both_are_one(self):
        self.assertEqual(ends(REST), (ROW, ROW))


class Left(unittest.TestCase):
    def test_the_example(self):
        self.assertEqual(left_by(SHAPE, STORY, ()), ((0,), (3,), (4,), (3,), (2,)))

    def test_the_example_of_19(self):
        self.assertEqual(left_by(THREE, REST_OF_19, ()), ((0,),) * 6)
        self.assertEqual(left_by(THREE, MOVE_OF_19, ()), ((0,),) * 6)

    def test_losses(self):
        self.assertEqual(left_by(SHAPE, STORY, (0, 3)), (None, (3,), (4,), None, (2,)))
        self.assertEqual(left_by(SHAPE, STORY, (0, 1, 2, 3, 4)), (None,) * 5)
        self.assertEqual(left_by(SHAPE, REST, (2,)), ((3,), (3,), None, (1,), (2,)))

    def test_no_sums(self):
        shape = (7, 1, 2, 2, 0, 0, ())
        self.assertEqual(left_by(shape, (ROW, BOTH, (1,)), ()), ((1,), (5,)))

    def test_wide_cells(self):
        story = (((0, 1), (2, 3), (4, 4)), ((0, (1, 1)), (2, (4, 3))), (0, 3))
        self.assertEqual(left_by(WIDE, story, (1,)), ((2, 1), None, (2, 3), (4, 3)))

    def test_all_stories_of_some_shapes(self):
        for seed, shape in enumerate(((5, 1, 2, 2, 0, 0), (5, 1, 2, 1, 1, 0), (5, 1, 2, 2, 0, 1))):
            shape = shape + (table_of(seed, 5, 2, 2, 0),)
            for lost in ((), (1,), (2, 3), (0, 1, 2, 3)):
                for story in every_story(shape):
                    self.assertEqual(left_by(shape, story, lost), left_of(shape, story, lost))
                    self.assertEqual(ends(story), both_ends(story))

    def test_what_is_wrong_in_order(self):
        self.assertEqual(what_of(self, BadStory, left_by, SHAPE, None, None), -1)
        self.assertEqual(what_of(self, BadStory, left_by, SHAPE, (ROW, ((0, (1,)),), ()), (9,)), 1)
        for lost in NO_CAME:
            if lost != (0, 1, 2, 3, 4):
                self.assertEqual(what_of(self, BadShelf, left_by, SHAPE, STORY, lost), -1)


class Clashes(unittest.TestCase):
    def test_the_example_of_19(self):
        self.assertIs(clash_right(THREE, (), (REST_OF_19, MOVE_OF_19)), True)
        self.assertIs(clash_right(THREE, (), (MOVE_OF_19, REST_OF_19)), True)
        self.assertIs(clash_right(THREE, (), (MOVE_OF_19, REST_OF_19, REST_OF_19)), True)

    def test_three_stories(self):
        shape = (5, 1, 3, 2, 0, 0, ((1, 1, 2), (3, 2, 1), (3, 4, 3), (4, 2, 2), (4, 1, 4)))
        stories = (
            (((2,), (0,), (0,)), ((0, (0,)), (1, (4,))), (4, 5)), (((2,), (0,), (0,)), ((0, (0,)), (2, (1,))), (4, 5)),
            (((0,), (4,), (0,)), ((1, (0,)), (2, (1,))), (0, 1, 6)),
        )
        self.assertTrue(do_clash(shape, (), stories))
        self.assertIs(clash_right(shape, (), stories), True)
        for at in range(3):
            self.assertIs(clash_right(shape, (), stories[:at] + stories[at + 1:]), False)
        self.assertIs(clash_right(shape, (), stories + stories[:1]), False)

    def test_stories_that_leave_something_else(self):
        other = (((0,), (6,), (0,)), ((1, (0,)), (2, (6,))), (0, 4))
        self.assertIs(clash_right(THREE, (), (REST_OF_19, other)), False)
        self.assertIs(clash_right(THREE, (), (REST_OF_19, MOVE_OF_19, other)), False)
        self.assertIs(clash_right(replaced(THREE, 4, 1), (1,), (REST_OF_19, other)), True)

    def test_stories_with_an_end_in_common(self):
        self.assertIs(clash_right(SHAPE, (), (STORY, STORY)), False)
        self.assertIs(clash_right(SHAPE, (), (REST, (ROW, BOTH, ()))), False)
        self.assertIs(clash_right(SHAPE, (), (REST, REST, REST)), False)

    def test_no_more_than_e_are_lost(self):
        pair = (REST_OF_19, MOVE_OF_19)
        for e in (0, 1, 2):
            shape = replaced(THREE, 4, e)
            for lost in ((), (0,), (5,), (1, 3), (0, 1, 2), (0, 1, 2, 3, 4, 5)):
                self.assertIs(clash_right(shape, lost, pair), len(lost) <= e)

    def test_what_has_no_form(self):
        pair = (REST_OF_19, MOVE_OF_19)
        loses = replaced(THREE, 4, 2)
        for thing in ODD + (nested(50), tuple(range(9999))):
            self.assertIs(clash_right(thing, (), pair), False)
            self.assertIs(clash_right(THREE, (), thing), False)
            self.assertIs(clash_right(THREE, (), (thing, MOVE_OF_19)), False)
            self.assertIs(clash_right(THREE, (), (REST_OF_19, thing)), False)
            self.assertIs(clash_right(THREE, (), (REST_OF_19, MOVE_OF_19, thing)), False)
            self.assertIs(clash_right(loses, thing, pair), thing == ())
        for lost in ((1, 0), (1, 1), (6,), (-1,), (True,), (0, None), "", [0]):
            self.assertIs(clash_right(loses, lost, pair), False)
        for stories in ((), (REST_OF_19,), pair + pair, list(pair), None):
            self.assertIs(clash_right(THREE, (), stories), False)

    def test_waited_stories_have_to_be_stories(self):
        pair = (REST_OF_19, MOVE_OF_19)
        self.assertIs(clash_right(replaced(THREE, 5, 1), (), pair), False)
        full = (REST_OF_19, (MOVE_OF_19[0], MOVE_OF_19[1], (0, 1, 2, 4)))
        self.assertIs(clash_right(replaced(THREE, 5, 1), (), full), False)
        blind = replaced(THREE, 6, ())
        shifted = (REST_OF_19[0], (), ()), (((1,), (0,), (0,)), ((0, (0,)), (1, (1,))), (0,))
        self.assertIs(clash_right(replaced(blind, 5, 1), (), shifted), True)


if __name__ == "__main__":
    unittest.main()
