"""What [17] and [22] want told quickly, at its rims; each call is far quicker than the limit here."""

import time
import unittest
from itertools import product

from helper import subsets, table_of
from twicemany.fewer import fewer
from twicemany.judge import clash_in, first_clash, safe, stands
from twicemany.kinds import kinds

SECONDS = 5
RIMS = (
    (4, 2, 0, 0, 6), (4, 2, 0, 1, 6), (3, 3, 0, 0, 6), (3, 3, 0, 1, 6), (3, 2, 1, 0, 5), (4, 2, 0, 0, 4),
    (4, 2, 0, 1, 3), (3, 2, 1, 0, 4), (4, 2, 0, 0, 5), (3, 3, 0, 0, 5), (4, 2, 0, 0, 0), (3, 3, 0, 1, 0),
)


class Times(unittest.TestCase):
    def timed(self, call, *args):
        begun = time.perf_counter()
        told = call(*args)
        self.assertTrue(time.perf_counter() - begun < SECONDS, (call, args))
        return told

    def test_shapes_at_the_rims(self):
        answers = set()
        for n, k, e, manner, c in RIMS:
            for p in (5, 31, 1000003):
                for table in (table_of(c, p, n, c), table_of(n, 3, n, c, 0), ((1,) * n,) * c, ((0,) * n,) * c):
                    shape = (p, 1, n, k, e, manner, table)
                    told = self.timed(stands, shape)
                    self.assertIs(self.timed(first_clash, shape) is None, told)
                    answers.add((n, k, e, manner, c, told))
        for n, k, e, manner, c in RIMS[:5]:
            self.assertIn((n, k, e, manner, c, True), answers)
            self.assertIn((n, k, e, manner, c, False), answers)

    def test_losses_at_the_rims(self):
        for n, k, e, manner, c in RIMS[:5]:
            shape = (1000003, 1, n, k, e, manner, table_of(3, 1000003, n, c))
            for lost in subsets(range(c + n)):
                if len(lost) < 3 or lost[-3] >= c:
                    told = self.timed(safe, shape, lost)
                    self.assertIs(self.timed(clash_in, shape, lost) is None, told)

    def test_fewer_of_the_greatest_shapes(self):
        for p, k, wide in product((5, 1000003), (2, 3), (1, 16)):
            for e in (0, 1, 2):
                for c in range(e + 2 * k):
                    self.timed(fewer, (p, wide, 8, k, e, 0, table_of(c, p, 8, c)))
                    self.timed(fewer, (p, wide, 2 * k - 1, k, e, 0, table_of(c, p, 2 * k - 1, c)))
            for c in range(2 * k - 1):
                self.timed(fewer, (p, wide, 8, k, 0, 1, table_of(c, p, 8, c)))

    def test_kinds_of_the_greatest_shape(self):
        told = self.timed(kinds, (1000003, 16, 8, 3, 2, 0, table_of(1, 1000003, 8, 8)), ())
        self.assertEqual(len(told), 577 * 256)


if __name__ == "__main__":
    unittest.main()
