import unittest
from itertools import product

from helper import ODD, do_clash, replaced, table_of, what_of
from twicemany.errors import BadShape, NotSo
from twicemany.fewer import fewer
from twicemany.judge import safe, stands
from twicemany.stories import clash_right, left_by

EXAMPLE = (7, 1, 3, 2, 0, 0, ((1, 0, 0), (0, 1, 0), (0, 0, 1)))


def enough(k, e, manner):
    return e + 2 * k if manner == 0 else 2 * k - 1


class Fewer(unittest.TestCase):
    def hold(self, shape):
        told = fewer(shape)
        self.assertEqual(len(told), 2)
        lost, stories = told
        self.assertTrue(clash_right(shape, lost, stories), (shape, told))
        self.assertTrue(do_clash(shape, lost, stories), (shape, told))
        self.assertTrue(len(lost) <= shape[4])
        self.assertEqual(fewer(shape[:6] + (tuple(tuple(row) for row in shape[6]),)), told)

    def test_the_example(self):
        self.hold(EXAMPLE)
        lost, stories = fewer(EXAMPLE)
        self.assertEqual(lost, ())
        self.assertEqual(left_by(EXAMPLE, stories[0], ()), left_by(EXAMPLE, stories[1], ()))

    def test_each_number_of_sums_below_enough(self):
        for k, manner in ((2, 0), (2, 1), (3, 0), (3, 1)):
            for n in range(2 * k - 1, 9):
                for e in (0, 1, 2) if manner == 0 else (0,):
                    for c in range(enough(k, e, manner)):
                        for seed, p in enumerate((5, 7, 1000003)):
                            self.hold((p, 1 + seed, n, k, e, manner, table_of(seed + n, p, n, c, seed % 2)))

    def test_all_small_tables_of_three_sums(self):
        rows = list(product((0, 1, 4), repeat=3))
        for one, other in product(rows[1::3], rows[2::5]):
            for third in rows[::4]:
                self.hold((5, 1, 3, 2, 0, 0, (one, other, third)))

    def test_tables_of_which_all_columns_are_free(self):
        for p in (5, 7, 11, 1000003):
            for n in (3, 4):
                points = tuple(tuple(x ** j % p for x in range(1, n + 1)) for j in range(3))
                self.hold((p, 1, n, 2, 0, 0, points))
                self.hold((p, 2, n, 2, 1, 0, points + ((1,) * n,)))
                self.hold((p, 1, n, 2, 2, 0, ((0,) * n, (1,) * n) + points))
        for p in (7, 11, 1000003):
            for n in (5, 6):
                points = tuple(tuple(x ** j % p for x in range(1, n + 1)) for j in range(5))
                self.hold((p, 1, n, 3, 0, 0, points))
                self.hold((p, 1, n, 3, 1, 0, ((0,) * n,) + points))

    def test_sparse_tables(self):
        unit = tuple(tuple(1 if x == j else 0 for x in range(5)) for j in range(5))
        for ones in range(2 ** 5):
            extra = tuple(ones >> x & 1 for x in range(5))
            for at in range(5):
                self.hold((5, 1, 5, 3, 0, 0, unit[:at] + (extra,) + unit[at + 1:]))
        for c in range(5):
            self.hold((5, 3, 5, 3, 0, 1, ((0,) * 5,) * c))
            self.hold((5, 3, 5, 3, 0, 1, unit[:c]))
            self.hold((5, 3, 5, 3, 2, 0, unit[:c]))

    def test_steps_that_have_to_be_chosen(self):
        # The further step may not be that of the change, and not each scale of epsilon is unlike delta.
        self.hold((5, 1, 3, 2, 0, 0, ((1, 1, 0), (0, 0, 1))))
        self.hold((1000003, 1, 3, 2, 0, 1, ((1, 1, 0), (0, 0, 1))))
        self.hold((5, 1, 3, 2, 0, 0, ((1, 1, 0), (1, 1, 0), (0, 0, 1))))
        self.hold((5, 1, 5, 3, 0, 0, (
            (0, 3, 1, 1, 3), (4, 0, 2, 0, 1), (0, 0, 0, 3, 2), (0, 1, 3, 0, 1), (3, 0, 2, 0, 4))))

    def test_the_judge_says_so_too(self):
        for k, e, manner in ((2, 0, 0), (2, 1, 0), (2, 0, 1)):
            for c in range(enough(k, e, manner)):
                shape = (31, 1, 3, k, e, manner, table_of(c, 31, 3, c))
                self.assertFalse(stands(shape))
                self.assertFalse(safe(shape, fewer(shape)[0]))

    def test_not_so(self):
        for shape in (
                (7, 1, 3, 1, 0, 0, ()), (7, 1, 8, 1, 2, 0, ()), (7, 1, 3, 1, 0, 1, ()),
                (7, 1, 2, 2, 0, 0, ()), (7, 1, 4, 3, 0, 0, ()), (7, 1, 4, 3, 2, 0, ()), (7, 1, 2, 2, 0, 1, ()),
                (7, 1, 3, 2, 0, 0, ((0, 0, 0),) * 4), (7, 1, 3, 2, 0, 0, ((0, 0, 0),) * 8),
                (7, 1, 3, 2, 1, 0, ((0, 0, 0),) * 5), (7, 1, 3, 2, 2, 0, ((0, 0, 0),) * 6),
                (7, 1, 5, 3, 0, 0, ((0,) * 5,) * 6), (7, 1, 5, 3, 2, 0, ((0,) * 5,) * 8),
                (7, 1, 3, 2, 0, 1, ((0, 0, 0),) * 3), (7, 1, 5, 3, 0, 1, ((0,) * 5,) * 5)):
            self.assertEqual(what_of(self, NotSo, fewer, shape), 0)

    def test_the_last_number_of_sums_that_is_too_few(self):
        for shape in (
                (7, 1, 3, 2, 0, 0, ((0, 0, 0),) * 3), (7, 1, 3, 2, 1, 0, ((0, 0, 0),) * 4),
                (7, 1, 3, 2, 2, 0, ((0, 0, 0),) * 5), (7, 1, 5, 3, 0, 0, ((0,) * 5,) * 5),
                (7, 1, 5, 3, 2, 0, ((0,) * 5,) * 7), (7, 1, 3, 2, 0, 1, ((0, 0, 0),) * 2),
                (7, 1, 5, 3, 0, 1, ((0,) * 5,) * 4)):
            self.hold(shape)

    def test_what_is_no_shape(self):
        for thing in ODD:
            self.assertEqual(what_of(self, BadShape, fewer, thing), -1)
        self.assertEqual(what_of(self, BadShape, fewer, replaced(EXAMPLE, 0, 9)), 0)
        self.assertEqual(what_of(self, BadShape, fewer, (7, 1, 1, 2, 0, 0, ())), 3)
        self.assertEqual(what_of(self, BadShape, fewer, (7, 1, 3, 2, 1, 1, ())), 5)


if __name__ == "__main__":
    unittest.main()
