"""Which kinds the search for clashes goes through: each that there is, but for the names of rows and ends;
and which vector it takes of what it finds."""

import unittest
from itertools import permutations, product

from helper import subsets
from twicemany.clashes import TWO_APART, three_kinds, two_kinds
from twicemany.votes import apart_vector

ALL = (1, 2)


def named_anew(places):
    """The least way to tell the same with other names of the three rows."""
    return min(tuple(own if own in ((), ALL) else (names[own[0]],) for own in places)
               for names in permutations(range(3)))


def unlike(places, one, other):
    return sum(1 for own in places if own == ALL or own == (one,) or own == (other,))


class Kinds(unittest.TestCase):
    def test_three_rows(self):
        for n in (1, 2, 3, 4):
            for k in range(1, min(3, n) + 1):
                for gone in subsets(range(n)):
                    owns = [((), (0,), (1,), (2,)) + ((ALL,) if x in gone else ()) for x in range(n)]
                    every = {named_anew(places) for places in product(*owns)
                             if all(unlike(places, one, other) <= k for one, other in ((0, 1), (0, 2), (1, 2)))}
                    told = [named_anew(places) for places in three_kinds(n, k, gone)]
                    self.assertEqual(len(told), len(set(told)))
                    self.assertEqual(set(told), every)

    def test_two_ends(self):
        for n in (1, 2, 3, 4):
            for k in range(1, min(3, n) + 1):
                for gone in subsets(range(n)):
                    at_once = (5, 1, n, k, 0, 0, ())
                    sides = [(0, 1) if x in gone else (0, 1, 2) for x in range(n)]
                    splits = [split for split in product(*sides) if sum(1 for side in split if side) == k]
                    every = {tuple(tuple(x for x in range(n) if split[x] == side) for side in (2, 1))
                             for split in splits}
                    told = two_kinds(at_once, gone)
                    self.assertTrue(all(may == (0, 1) for _, may in told))
                    both = [kind for kind, _ in told] + [self.turned(kind, gone) for kind, _ in told]
                    self.assertEqual(set(both), every)
                    waited = two_kinds((5, 1, n, k, 0, 1, ()), gone)
                    self.assertEqual({kind for kind, _ in waited}, every)
                    self.assertTrue(all(may == ((1,) if kind[0] else (0, 1)) for kind, may in waited))

    def turned(self, kind, gone):
        """The kind of a story that is told from its end to its beginning."""
        came, missing = kind
        return (tuple(x for x in missing if x not in gone),
                tuple(sorted(came + tuple(x for x in missing if x in gone))))


class Vectors(unittest.TestCase):
    def test_all_pairs_are_apart(self):
        # Four rows of one number; each of the first three steps makes another pair one.
        frame = (5, 0, 1, TWO_APART, TWO_APART)
        for space in ([[0, 2, 1, 2], [0, 2, 4, 4]], [[0, 1, 0, 0], [0, 0, 1, 0], [0, 0, 0, 1]],
                      [[1, 0, 0, 0], [0, 1, 0, 0]], [[1, 1, 0, 0]]):
            one, other, third, fourth = apart_vector(space, frame)
            self.assertTrue(one not in (third, fourth) and other not in (third, fourth), space)


if __name__ == "__main__":
    unittest.main()
