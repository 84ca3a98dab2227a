import unittest
from itertools import combinations

from helper import every_story, replaced, subsets, table_of, what_of
from twicemany.errors import BadShape, BadShelf
from twicemany.kinds import kinds

SHAPE = (7, 1, 2, 1, 0, 0, ((1, 1),))


def rising(top, most):
    return [part for size in range(most + 1) for part in combinations(range(top), size)]


def listed(shape, lost):
    """All kinds as [13] defines them: each triple of rising tuples is asked whether it is one."""
    _, _, n, k, _, manner, table = shape
    kept = [j for j in range(len(table)) if j not in lost]
    found = []
    for came in rising(n, k):
        for missing in rising(n, k):
            for of_sums in rising(len(table), len(table)):
                right = len(came) + len(missing) <= k and not set(came) & set(missing)
                right = right and all(len(table) + x not in lost for x in came)
                right = right and all(j in kept for j in of_sums)
                if right and (manner == 0 or came == () or list(of_sums) == kept):
                    found.append((came, missing, of_sums))
    return sorted(found, key=lambda kind: (len(kind[0]) + len(kind[1]), kind))


class Kinds(unittest.TestCase):
    def test_the_example(self):
        self.assertEqual(kinds(SHAPE, ()), (
            ((), (), ()), ((), (), (0,)), ((), (0,), ()), ((), (0,), (0,)), ((), (1,), ()), ((), (1,), (0,)),
            ((0,), (), ()), ((0,), (), (0,)), ((1,), (), ()), ((1,), (), (0,))))

    def test_the_example_waited_and_with_losses(self):
        self.assertEqual(kinds(replaced(SHAPE, 5, 1), ()), (
            ((), (), ()), ((), (), (0,)), ((), (0,), ()), ((), (0,), (0,)), ((), (1,), ()), ((), (1,), (0,)),
            ((0,), (), (0,)), ((1,), (), (0,))))
        self.assertEqual(kinds(SHAPE, (1,)), (
            ((), (), ()), ((), (), (0,)), ((), (0,), ()), ((), (0,), (0,)), ((), (1,), ()), ((), (1,), (0,)),
            ((1,), (), ()), ((1,), (), (0,))))
        self.assertEqual(kinds(SHAPE, (0, 1)), (((), (), ()), ((), (0,), ()), ((), (1,), ()), ((1,), (), ())))
        self.assertEqual(kinds(SHAPE, (0, 1, 2)), (((), (), ()), ((), (0,), ()), ((), (1,), ())))

    def test_all_kinds_of_many_shapes(self):
        for n in (1, 2, 3):
            for k in range(1, n + 1):
                for c in (0, 1, 2):
                    for manner in (0, 1):
                        shape = (5, 1, n, k, 0, manner, table_of(c, 5, n, c))
                        for lost in subsets(range(c + n)):
                            self.assertEqual(list(kinds(shape, lost)), listed(shape, lost))

    def test_each_once_and_in_order(self):
        told = kinds((5, 2, 5, 3, 2, 0, table_of(1, 5, 5, 3)), (1, 4))
        self.assertEqual(len(told), len(set(told)))
        ranks = [(len(came) + len(missing), (came, missing, of_sums)) for came, missing, of_sums in told]
        self.assertEqual(ranks, sorted(ranks))
        self.assertEqual(ranks[-1][0], 3)

    def test_each_story_is_of_a_kind(self):
        for manner in (0, 1):
            shape = (5, 1, 2, 2, 0, manner, ((1, 2), (3, 1)))
            for lost in ((), (0,), (2,), (1, 3)):
                told = set(kinds(shape, lost))
                for _, changes, came in every_story(shape):
                    cells = [x for x, _ in changes]
                    here = tuple(x for x in cells if 2 + x in came and 2 + x not in lost)
                    rest = tuple(x for x in cells if x not in here)
                    self.assertIn((here, rest, tuple(j for j in came if j < 2 and j not in lost)), told)

    def test_what_is_wrong_in_order(self):
        self.assertEqual(what_of(self, BadShape, kinds, None, None), -1)
        self.assertEqual(what_of(self, BadShape, kinds, replaced(SHAPE, 0, 6), (9,)), 0)
        for lost in (None, True, 0, "", [], (3,), (-1,), (1, 0), (0, 0), (True,), (None,), ((0,),)):
            self.assertEqual(what_of(self, BadShelf, kinds, SHAPE, lost), -1)


if __name__ == "__main__":
    unittest.main()
