"""The judge of small shapes against all their stories, listed one by one as [7], [9] and [14] define them."""

import unittest
from itertools import product

from helper import (do_clash, does_stand, ends_at_nought, is_safe, numbers_from, replaced, subsets, table_of,
                    three_apart, two_apart)
from twicemany.clashes import clash_of_three, clash_of_two
from twicemany.judge import clash_in, first_clash, safe, stands
from twicemany.stories import clash_right


def small_tables(p, n, c, many):
    tables = [table_of(seed, p, n, c, seed % 2) for seed in range(many)]
    return tables + [((0,) * n,) * c, ((1,) * n,) * c, table_of(7, 3, n, c, 0)]


class Brute(unittest.TestCase):
    def hold(self, shape, lost):
        """Hold what is told of one loss against the list; return whether it is safe."""
        listed = is_safe(shape, lost)
        stories = clash_in(shape, lost)
        self.assertIs(safe(shape, lost), listed, (shape, lost))
        self.assertIs(stories is None, listed, (shape, lost))
        if stories is not None:
            self.assertTrue(do_clash(shape, lost, stories), (shape, lost, stories))
            self.assertIs(clash_right(shape, lost, stories), len(lost) <= shape[4])
        return listed

    def hold_whole(self, shape):
        """Hold what is told of a shape against the list; return whether it stands."""
        listed = does_stand(shape)
        told = first_clash(shape)
        self.assertIs(stands(shape), listed, shape)
        self.assertIs(told is None, listed, shape)
        if told is not None:
            self.assertTrue(len(told[0]) <= shape[4] and do_clash(shape, told[0], told[1]), (shape, told))
            self.assertTrue(clash_right(shape, told[0], told[1]))
        return listed

    def test_two_cells_all_losses(self):
        answers = set()
        for k in (1, 2):
            for c in (0, 1, 2):
                for manner in (0, 1):
                    for table in small_tables(5, 2, c, 2):
                        shape = (5, 1, 2, k, 0, manner, table)
                        for lost in subsets(range(c + 2)):
                            answers.add((manner, len(lost), self.hold(shape, lost)))
        for manner in (0, 1):
            self.assertTrue({(manner, 0, True), (manner, 0, False), (manner, 1, True), (manner, 1, False)} <= answers)

    def test_two_cells_three_sums(self):
        answers = []
        for manner in (0, 1):
            for table in small_tables(5, 2, 3, 5) + [((3, 1), (2, 2), (3, 4))]:
                shape = (5, 1, 2, 2, 0, manner, table)
                for lost in ((), (0,), (4,), (1, 2)):
                    answers.append((manner, lost, self.hold(shape, lost)))
        self.assertIn((0, (), True), answers)
        self.assertIn((0, (), False), answers)
        self.assertIn((1, (), True), answers)
        self.assertIn((1, (), False), answers)
        self.assertIn((1, (0,), True), answers)

    def test_two_cells_with_seven(self):
        answers = []
        for manner in (0, 1):
            for table in small_tables(7, 2, 2, 2) + [((6, 2), (5, 6), (3, 4))]:
                shape = (7, 1, 2, 2, 0, manner, table)
                for lost in ((), (0,), (3,)):
                    answers.append((manner, lost, self.hold(shape, lost)))
        self.assertIn((0, (), True), answers)
        self.assertIn((0, (), False), answers)

    def test_shapes_with_and_without_a_loss(self):
        answers = []
        for k, e, manner, most in ((1, 0, 0, 2), (1, 0, 1, 2), (2, 0, 0, 3), (2, 0, 1, 3), (1, 1, 0, 3), (2, 1, 0, 2)):
            for c in range(most + 1):
                for table in small_tables(5, 2, c, 3) + [((3, 1), (2, 2), (3, 4))] * (c == 3):
                    answers.append((k, e, manner, self.hold_whole((5, 1, 2, k, e, manner, table))))
        for told in ((1, 0, 0, True), (2, 0, 0, True), (2, 0, 0, False), (2, 0, 1, True), (2, 0, 1, False)):
            self.assertIn(told, answers)
        self.assertIn((1, 1, 0, True), answers)
        self.assertIn((1, 1, 0, False), answers)
        self.assertIn((2, 1, 0, False), answers)

    def test_the_table_that_stands_a_loss(self):
        shape = (7, 1, 2, 2, 1, 0, ((2, 5), (4, 2), (6, 2), (5, 1)))
        for lost in ((), (0,), (3,), (5,)):
            self.assertTrue(self.hold(shape, lost))
        self.assertFalse(self.hold(shape, (0, 1)))

    def test_three_cells(self):
        table = ((1, 1, 2), (3, 2, 1), (3, 4, 3))
        for manner in (0, 1):
            for k in (1, 2):
                shape = (5, 1, 3, k, 0, manner, table)
                # Waited, three sums are enough for k 2; at once it needs four.
                self.assertIs(self.hold(shape, ()), k == 1 or manner == 1)
        three = (5, 1, 3, 2, 0, 0, table + ((4, 2, 2), (4, 1, 4)))
        self.assertFalse(self.hold(three, ()))

    def test_one_cell_and_wide_cells(self):
        for c in (0, 1, 2, 3):
            for e in (0, 1):
                for table in small_tables(5, 1, c, 2):
                    self.hold_whole((5, 1, 1, 1, e, 0, table))
                    for lost in subsets(range(c + 1)):
                        self.hold(replaced((5, 2, 1, 1, 0, 0, ()), 6, table), lost)


class Parts(unittest.TestCase):
    """Clashes of two and of three stories apart; all that is left may be shifted by a row, so noughts are enough."""

    def hold(self, shape, lost):
        lists = ends_at_nought(shape, lost).values()
        two, three = clash_of_two(shape, lost), clash_of_three(shape, lost)
        listed = any(map(two_apart, lists)), any(map(three_apart, lists))
        self.assertEqual((two is not None, three is not None), listed, (shape, lost))
        for stories in (two, three):
            self.assertTrue(stories is None or do_clash(shape, lost, stories), (shape, lost, stories))
        return (shape[5],) + listed

    def test_two_cells(self):
        answers = set()
        for k, c, manner in product((1, 2), (0, 1, 2, 3), (0, 1)):
            for table in small_tables(5, 2, c, 2):
                for lost in subsets(range(c + 2)):
                    answers.add(self.hold((5, 1, 2, k, 0, manner, table), lost))
        self.assertTrue({(m, two, two) for m in (0, 1) for two in (True, False)} <= answers)

    def test_three_cells(self):
        answers = set()
        told = numbers_from(17, 0, 10 ** 6)
        for _ in range(60):
            k, c, manner = 1 + next(told) % 3, next(told) % 4, next(told) % 2
            table = table_of(next(told), (2, 3, 5)[next(told) % 3], 3, c, 0)
            lost = subsets(range(c + 3))[next(told) % 2 ** (c + 1)]
            answers.add(self.hold((5, 1, 3, k, 0, manner, table), lost))
        self.assertTrue({(m, True, three) for m in (0, 1) for three in (True, False)} <= answers)

    def test_three_waited(self):
        shape = (5, 1, 2, 2, 0, 0, ((1, 1), (0, 1), (1, 0)))
        self.assertEqual(self.hold(shape, ())[2], True)
        self.assertEqual(self.hold(replaced(shape, 5, 1), ())[2], False)

    def test_three_alone(self):
        shape = (5, 1, 3, 2, 0, 0, ((1, 1, 2), (3, 2, 1), (3, 4, 3), (4, 2, 2), (4, 1, 4)))
        self.assertEqual(self.hold(shape, ()), (0, False, True))
        self.assertEqual(self.hold(replaced(shape, 5, 1), ()), (1, False, False))


if __name__ == "__main__":
    unittest.main()
