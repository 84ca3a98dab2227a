import unittest

from helper import ODD, nested, replaced, what_of
from twicemany.errors import BadShape
from twicemany.shapes import is_shape, made_shape

SHAPE = (7, 1, 2, 2, 0, 0, ((6, 2), (5, 6), (3, 4)))
WIDEST = (1000003, 16, 8, 3, 2, 0, ((0, 1000002, 1, 2, 3, 4, 5, 6),) * 8)
LEAST = (5, 1, 1, 1, 0, 0, ())

# For each part some things that it may not be in SHAPE.
WRONG = (
    (-7, 0, 1, 2, 3, 4, 6, 9, 25, 1000001, 1000033, 10 ** 900),
    (0, -1, 17, 10 ** 900),
    (0, -1, 9, 10 ** 900),
    (0, -1, 3, 4, 10 ** 900),
    (-1, 3, 10 ** 900),
    (-1, 2, 10 ** 900),
    (((6, 2), (5, 7)), ((6, 2), (5, -1)), ((6, 2, 0),), ((6,),), ((6, 2),) * 9, ((6, 2), None), ((6, True),),
     ((6, "2"),), ((6, None),), (("6", "2"),), 0, ((6, (2,)),)),
)


class Shapes(unittest.TestCase):
    def test_shapes_are_returned(self):
        waited = replaced(SHAPE, 5, 1)
        for shape in (SHAPE, WIDEST, LEAST, waited, replaced(SHAPE, 6, ()), replaced(SHAPE, 6, ((0, 0),) * 8)):
            self.assertEqual(made_shape(shape), shape)
            self.assertIs(is_shape(shape), True)

    def test_each_number_of_each_part(self):
        for at, least, most in ((1, 1, 16), (3, 1, 2), (4, 0, 2), (5, 0, 1)):
            for number in range(least, most + 1):
                self.assertTrue(is_shape(replaced(SHAPE, at, number)))
            self.assertFalse(is_shape(replaced(SHAPE, at, least - 1)))
            self.assertFalse(is_shape(replaced(SHAPE, at, most + 1)))
        for n in range(1, 9):
            self.assertTrue(is_shape((5, 1, n, 1, 0, 0, ((4,) * n,))))
            for k in range(0, 5):
                self.assertIs(is_shape((5, 1, n, k, 0, 0, ())), 1 <= k <= min(3, n))

    def test_what_is_no_tuple_of_seven(self):
        for thing in ODD + (SHAPE[:6], SHAPE + (0,), list(SHAPE), nested(50), "7122003"):
            self.assertEqual(what_of(self, BadShape, made_shape, thing), -1)
            self.assertIs(is_shape(thing), False)

    def test_each_wrong_part_is_named(self):
        for at, things in enumerate(WRONG):
            for thing in things + (None, True, False, "x", "7", (1, 2), nested(49)):
                wrong = replaced(SHAPE, at, thing)
                self.assertEqual(what_of(self, BadShape, made_shape, wrong), at, wrong)
                self.assertIs(is_shape(wrong), False)

    def test_the_first_wrong_part_is_named(self):
        for at in range(7):
            for later in range(at + 1, 7):
                wrong = replaced(replaced(SHAPE, later, None), at, None)
                self.assertEqual(what_of(self, BadShape, made_shape, wrong), at)
        self.assertEqual(what_of(self, BadShape, made_shape, (None,) * 7), 0)

    def test_k_above_n_is_part_three(self):
        self.assertEqual(what_of(self, BadShape, made_shape, (7, 1, 1, 2, 0, 0, ())), 3)
        self.assertEqual(what_of(self, BadShape, made_shape, (7, 1, 2, 3, 0, 0, None)), 3)
        self.assertEqual(what_of(self, BadShape, made_shape, (7, 1, 9, 10, 0, 0, ())), 2)

    def test_waited_with_a_loss_is_part_five(self):
        for e in (1, 2):
            self.assertEqual(what_of(self, BadShape, made_shape, (7, 1, 2, 2, e, 1, ())), 5)
            self.assertTrue(is_shape((7, 1, 2, 2, e, 0, ())))
        self.assertEqual(what_of(self, BadShape, made_shape, (7, 1, 2, 2, 1, 1, None)), 5)
        self.assertTrue(is_shape((7, 1, 2, 2, 0, 1, ())))

    def test_numbers_of_the_table_are_below_the_prime(self):
        self.assertTrue(is_shape((5, 1, 2, 1, 0, 0, ((0, 4),))))
        self.assertFalse(is_shape((5, 1, 2, 1, 0, 0, ((0, 5),))))
        self.assertFalse(is_shape((5, 1, 2, 1, 0, 0, ((-1, 4),))))

    def test_the_judge_takes_great_values(self):
        many = tuple(range(9000))
        self.assertIs(is_shape(many), False)
        self.assertIs(is_shape(replaced(SHAPE, 6, (many,))), False)
        self.assertIs(is_shape(replaced(SHAPE, 6, many)), False)


if __name__ == "__main__":
    unittest.main()
