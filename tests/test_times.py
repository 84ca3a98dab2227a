"""What [17], [22] and [24] want told quickly, at its rims; each call is far quicker than the limit here."""

import time
import unittest
from itertools import product

from helper import come_from, left_of, subsets, table_of
from twicemany.errors import Blind, Torn
from twicemany.fewer import fewer
from twicemany.finder import finder
from twicemany.judge import clash_in, first_clash, safe, stands
from twicemany.kinds import kinds
from twicemany.readings import spread, told

SECONDS = 5
RIMS = (
    (4, 2, 0, 0, 6), (4, 2, 0, 1, 6), (3, 3, 0, 0, 6), (3, 3, 0, 1, 6), (3, 2, 1, 0, 5), (4, 2, 0, 0, 4),
    (4, 2, 0, 1, 3), (3, 2, 1, 0, 4), (4, 2, 0, 0, 5), (3, 3, 0, 0, 5), (4, 2, 0, 0, 0), (3, 3, 0, 1, 0),
)


class Times(unittest.TestCase):
    def timed(self, call, *args):
        begun = time.perf_counter()
        told = call(*args)
        self.assertTrue(time.perf_counter() - begun < SECONDS, (call, args))
        return told

    def test_shapes_at_the_rims(self):
        answers = set()
        for n, k, e, manner, c in RIMS:
            for p in (5, 31, 1000003):
                for table in (table_of(c, p, n, c), table_of(n, 3, n, c, 0), ((1,) * n,) * c, ((0,) * n,) * c):
                    shape = (p, 1, n, k, e, manner, table)
                    told = self.timed(stands, shape)
                    self.assertIs(self.timed(first_clash, shape) is None, told)
                    answers.add((n, k, e, manner, c, told))
        for n, k, e, manner, c in RIMS[:5]:
            self.assertIn((n, k, e, manner, c, True), answers)
            self.assertIn((n, k, e, manner, c, False), answers)

    def test_losses_at_the_rims(self):
        for n, k, e, manner, c in RIMS[:5]:
            shape = (1000003, 1, n, k, e, manner, table_of(3, 1000003, n, c))
            for lost in subsets(range(c + n)):
                if len(lost) < 3 or lost[-3] >= c:
                    told = self.timed(safe, shape, lost)
                    self.assertIs(self.timed(clash_in, shape, lost) is None, told)

    def test_fewer_of_the_greatest_shapes(self):
        for p, k, wide in product((5, 1000003), (2, 3), (1, 16)):
            for e in (0, 1, 2):
                for c in range(e + 2 * k):
                    self.timed(fewer, (p, wide, 8, k, e, 0, table_of(c, p, 8, c)))
                    self.timed(fewer, (p, wide, 2 * k - 1, k, e, 0, table_of(c, p, 2 * k - 1, c)))
            for c in range(2 * k - 1):
                self.timed(fewer, (p, wide, 8, k, 0, 1, table_of(c, p, 8, c)))

    def test_kinds_of_the_greatest_shape(self):
        told = self.timed(kinds, (1000003, 16, 8, 3, 2, 0, table_of(1, 1000003, 8, 8)), ())
        self.assertEqual(len(told), 577 * 256)

    def test_finder_at_the_rims(self):
        found = set()
        sizes = [(n, k, 0, manner, c) for n in (1, 2, 3) for k in (1, 2) for manner in (0, 1) for c in range(5) if k <= n]
        for n, k, e, manner, c in sizes + [(2, 2, 1, 0, c) for c in range(6)]:
            for p in (5, 7, 31, 1000003):
                for first in (0, 10 ** 9):
                    told_one = self.timed(finder, p, n, k, e, manner, c, first, 100)
                    found.add((n, k, e, manner, c, told_one is not None))
        for size in ((3, 2, 0, 0, 4), (3, 2, 0, 1, 3), (2, 2, 1, 0, 5)):
            self.assertIn(size + (True,), found)
        for size in ((3, 2, 0, 0, 3), (3, 2, 0, 1, 2), (2, 2, 1, 0, 3)):
            self.assertIn(size + (False,), found)

    def test_what_is_told_at_the_rims(self):
        answers = set()
        for n, k, e, manner, c in ((4, 2, 0, 0, 6), (4, 2, 0, 1, 6), (4, 2, 1, 0, 6), (3, 3, 0, 0, 6), (3, 3, 0, 1, 6)):
            for p, wide in product((5, 1000003), (1, 16)):
                for table in (table_of(c, p, n, c), table_of(n, 3, n, c, 0), ((1,) * n,) * c, ((0,) * n,) * c):
                    answers |= self.told_of((p, wide, n, k, e, manner, table))
        self.assertEqual(answers, {"told", "none", "Torn", "Blind"})

    def told_of(self, shape):
        many, n = len(shape[6]), shape[2]
        answers = set()
        for lost in ((), (0,), (many,), (0, many), (many, many + 1), tuple(range(many, many + n)), (0, 1, many + n - 1)):
            lefts = [left_of(shape, story, lost) for story in come_from(shape, many, 3)]
            for story in come_from(shape, n, 2):
                other = left_of(shape, story, ())[::-1]
                lefts.append(tuple(None if at in lost else cell for at, cell in enumerate(other)))
            answers |= {self.answer(shape, left) for left in lefts}
        return answers

    def answer(self, shape, left):
        try:
            self.timed(spread, shape, left)
            return "none" if self.timed(told, shape, left) is None else "told"
        except (Blind, Torn) as error:
            return error.__class__.__name__


if __name__ == "__main__":
    unittest.main()
