"""What is told of each left stripe of small shapes, against all their stories, listed one by one as [7], [9] and
[14] define them."""

import unittest
from itertools import product

from helper import (do_clash, ends_by_left, every_row, fits_of, is_blind, left_of, likelier_of, striped, subsets,
                    table_of)
from twicemany.errors import Blind, Torn
from twicemany.judge import stands
from twicemany.readings import is_whole, spread, told

STAND = ((3, 1), (2, 2), (3, 4))


class Brute(unittest.TestCase):
    def hold(self, shape, losses):
        """Hold what is told of each left stripe behind these losses; return what came of it."""
        full = {row: striped(shape, row) for row in every_row(shape)}
        cells = [(number,) for number in range(shape[0])]
        answers = set()
        for lost in losses:
            lists = ends_by_left(shape, lost)
            blind = is_blind(shape, lost, full)
            for left in product(*[[None] if shelf in lost else cells for shelf in range(len(shape[6]) + shape[2])]):
                fits = fits_of(shape, left, full)
                self.assertIs(is_whole(shape, left), fits != [])
                answers.add((shape[5],) + self.hold_one(shape, left, lists, fits, blind))
        return answers

    def hold_one(self, shape, left, lists, fits, blind):
        lost = tuple(at for at, cell in enumerate(left) if cell is None)
        try:
            rows, one = spread(shape, left), told(shape, left)
        except Blind as error:
            self.assertTrue(blind)
            self.assertEqual(error.what, lost)
            return "blind", fits != []
        except Torn as error:
            self.assertFalse(blind or fits or lists[left])
            self.assertTrue(do_clash(shape, lost, error.what))
            self.assertEqual(left_of(shape, error.what[0], lost), left)
            return "torn", len(lost)
        self.assertFalse(blind)
        if fits:
            self.assertEqual((rows, one), ((fits[0],), fits[0]))
            return "whole", len(lost), len(lists[left])
        listed = lists.get(left, ())
        self.assertTrue(listed != set())
        self.assertEqual(rows, tuple(sorted(listed)), (shape, left))
        self.assertEqual(one, likelier_of(shape, left, listed) if listed else None, (shape, left))
        return len(rows), len(lost)

    def test_few_sums_and_each_loss(self):
        answers = set()
        for k, c, manner in product((1, 2), (0, 1, 2), (0, 1)):
            for seed in range(2):
                shape = (5, 1, 2, k, 0, manner, table_of(seed + c, 5, 2, c, seed))
                answers |= self.hold(shape, subsets(range(c + 2)))
        for manner in (0, 1):
            for answer in (("torn", 0), ("torn", 1), ("blind", True), ("blind", False), (2, 0), (2, 1), (1, 0),
                           (0, 0), (1, 1), ("whole", 0, 0), ("whole", 0, 1), ("whole", 2, 1)):
                self.assertIn((manner,) + answer, answers)

    def test_a_shape_that_stands_and_each_loss(self):
        for manner in (0, 1):
            shape = (5, 1, 2, 2, 0, manner, STAND)
            self.assertIs(stands(shape), True)
            answers = self.hold(shape, subsets(range(5)))
            self.assertNotIn((manner, "torn", 0), answers)
            self.assertTrue({(manner, 1, 0), (manner, 2, 0), (manner, 0, 0), (manner, "torn", 1)} <= answers)

    def test_shapes_of_three_sums_that_do_not_stand(self):
        for manner, table in ((0, ((1, 1), (2, 2), (3, 4))), (1, ((1, 2), (1, 2), (2, 4)))):
            shape = (5, 1, 2, 2, 0, manner, table)
            self.assertIs(stands(shape), False)
            self.assertIn((manner, "torn", 0), self.hold(shape, ((), (0,), (3,), (3, 4), (0, 2))))

    def test_one_cell(self):
        answers = set()
        for c, manner, seed in product((0, 1, 2, 3), (0, 1), (0, 1)):
            shape = (5, 1, 1, 1, 0, manner, table_of(seed + c, 5, 1, c, seed))
            answers |= self.hold(shape, subsets(range(c + 1)))
        self.assertTrue({(m, 2, lost) for m in (0, 1) for lost in (0, 1)} <= answers)


class Choices(unittest.TestCase):
    def test_both_choices_come(self):
        """Of two rows the greater one is told, too, by what agrees with it."""
        for manner in (0, 1):
            shape = (5, 1, 2, 2, 0, manner, STAND)
            told_of_two = set()
            for left in product([(number,) for number in range(5)], repeat=5):
                rows = spread(shape, left)
                if len(rows) == 2:
                    told_of_two.add(rows.index(told(shape, left)))
            self.assertEqual(told_of_two, {0, 1})


if __name__ == "__main__":
    unittest.main()
