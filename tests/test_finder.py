import unittest

from helper import ODD, what_of
from twicemany.errors import BadNumber, BadShape
from twicemany.finder import finder, table_at
from twicemany.judge import stands

NO_NUMBERS = (None, "", "1", (), (1,), True, False, -1, 10 ** 900)


def listed(p, n, c, number):
    """The table as [21] tells it, reckoned without a remainder until the end of each step."""
    x, numbers = ((number + 1) * 104729) % 998244353, []
    for _ in range(n * c):
        x = (3125 * x + 137) % 998244353
        numbers.append(1 + x % (p - 1))
    return tuple(tuple(numbers[j * n:(j + 1) * n]) for j in range(c))


class Tables(unittest.TestCase):
    def test_the_example(self):
        self.assertEqual(table_at(7, 3, 2, 0), ((1, 4, 2), (3, 3, 6)))
        self.assertEqual((3125 * 104729 + 137) % 998244353, 327278262)

    def test_tables_as_told(self):
        for p in (5, 7, 31, 1000003):
            for n in range(1, 9):
                for c in range(9):
                    for number in (0, 1, 2, 9531, 10 ** 9 - 1, 10 ** 9):
                        self.assertEqual(table_at(p, n, c, number), listed(p, n, c, number))

    def test_no_sums(self):
        self.assertEqual(table_at(5, 8, 0, 3), ())

    def test_the_numbers_are_from_1_to_p_less_1(self):
        numbers = {x for number in range(60) for row in table_at(5, 8, 8, number) for x in row}
        self.assertEqual(numbers, {1, 2, 3, 4})

    def test_wrong_arguments_from_the_left(self):
        for p in ODD + (2, 3, 4, 9, 1000001, 1000033):
            self.assertEqual(what_of(self, BadShape, table_at, p, None, None, None), 0)
        for n in NO_NUMBERS + (0, 9):
            self.assertEqual(what_of(self, BadShape, table_at, 7, n, None, None), 2)
        for c in NO_NUMBERS + (9,):
            self.assertEqual(what_of(self, BadShape, table_at, 7, 8, c, None), 6)
        for number in NO_NUMBERS + (10 ** 9 + 1,):
            self.assertEqual(what_of(self, BadNumber, table_at, 7, 8, 8, number), number)


class Finder(unittest.TestCase):
    def first_of(self, p, n, k, e, manner, c, first, many):
        for number in range(first, first + many):
            table = listed(p, n, c, number)
            if stands((p, 1, n, k, e, manner, table)):
                return number, table
        return None

    def test_the_first_that_stands(self):
        found = set()
        for args in ((7, 2, 2, 0, 0, 3), (7, 3, 2, 0, 0, 4), (31, 3, 2, 0, 1, 3), (5, 3, 2, 0, 1, 3), (7, 2, 2, 1, 0, 4),
                     (31, 3, 2, 0, 0, 4), (5, 2, 2, 0, 0, 3), (5, 1, 1, 1, 0, 3), (31, 3, 1, 1, 0, 3)):
            for first, many in ((0, 40), (0, 1), (7, 30), (123456789, 30)):
                told = finder(*args, first, many)
                self.assertEqual(told, self.first_of(*args, first, many), (args, first, many))
                found.add(None if told is None else told[0] > first)
        self.assertEqual(found, {None, True, False})

    def test_it_tells_number_and_table(self):
        for first in (0, 5, 10 ** 9):
            number, table = finder(1000003, 3, 2, 0, 0, 4, first, 100)
            self.assertTrue(first <= number < first + 100)
            self.assertIs(stands((1000003, 1, 3, 2, 0, 0, table)), True)

    def test_none_of_many_none(self):
        self.assertIsNone(finder(5, 1, 1, 0, 0, 0, 0, 0))
        self.assertEqual(finder(5, 1, 1, 0, 0, 0, 0, 1), (0, ()))
        self.assertEqual(finder(5, 1, 1, 0, 1, 1, 3, 1000), (3, table_at(5, 1, 1, 3)))
        self.assertEqual(finder(1000003, 8, 1, 0, 0, 8, 10 ** 9, 1), (10 ** 9, table_at(1000003, 8, 8, 10 ** 9)))

    def test_just_many_are_tried(self):
        number, table = finder(7, 3, 2, 0, 0, 4, 0, 1000)
        self.assertTrue(number > 0)
        self.assertIsNone(finder(7, 3, 2, 0, 0, 4, 0, number))
        self.assertEqual(finder(7, 3, 2, 0, 0, 4, 0, number + 1), (number, table))
        self.assertEqual(finder(7, 3, 2, 0, 0, 4, number, 1), (number, table))

    def test_numbers_beyond_the_greatest(self):
        args = (7, 2, 2, 0, 0, 3)
        number, table = finder(*args, 10 ** 9, 1000)
        self.assertTrue(number > 10 ** 9)
        self.assertEqual(table, listed(7, 2, 3, number))
        self.assertEqual((number, table), self.first_of(*args, 10 ** 9, 1000))

    def test_too_few_sums(self):
        for c in range(4):
            self.assertIsNone(finder(1000003, 3, 2, 0, 0, c, 0, 20))
        for c in range(3):
            self.assertIsNone(finder(1000003, 3, 2, 0, 1, c, 0, 20))
        for p, n, k, e, manner, c in ((1009, 2, 2, 1, 0, 5), (1009, 3, 2, 0, 0, 4), (1009, 3, 2, 0, 1, 3),
                                      (1009, 3, 1, 1, 0, 3), (1009, 2, 1, 2, 0, 4), (1009, 3, 3, 0, 1, 5)):
            self.assertIsNotNone(finder(p, n, k, e, manner, c, 0, 100))

    def test_wrong_arguments_from_the_left(self):
        right = [7, 3, 2, 0, 0, 4, 0, 1]
        wrong = ((0, NO_NUMBERS + (2, 3, 4, 9, 1000033)), (2, NO_NUMBERS + (0, 9)), (3, NO_NUMBERS + (0, 4)),
                 (4, NO_NUMBERS + (3,)), (5, NO_NUMBERS + (2,)), (6, NO_NUMBERS + (9,)))
        for at, (index, things) in enumerate(wrong):
            for thing in things:
                args = right[:at] + [thing] + [None] * (7 - at)
                self.assertEqual(what_of(self, BadShape, finder, *args), index, args)
        for first in NO_NUMBERS[:5] + (-1, 10 ** 9 + 1):
            self.assertEqual(what_of(self, BadNumber, finder, *right[:6], first, None), first)
        for many in NO_NUMBERS[:5] + (-1, 1001):
            self.assertEqual(what_of(self, BadNumber, finder, *right[:7], many), many)

    def test_what_no_shape_has_of_two(self):
        self.assertEqual(what_of(self, BadShape, finder, 7, 2, 3, 0, 0, 4, 0, 1), 3)
        self.assertEqual(what_of(self, BadShape, finder, 7, 3, 2, 1, 1, 4, 0, 1), 5)
        self.assertEqual(what_of(self, BadShape, finder, 7, 9, 9, 0, 0, 4, 0, 1), 2)
        self.assertEqual(what_of(self, BadShape, finder, 7, 3, 4, 3, 2, 9, 0, 1), 3)


if __name__ == "__main__":
    unittest.main()
