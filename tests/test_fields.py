import unittest
from itertools import product

from helper import ODD, nested, numbers_from
from twicemany.fields import inverse, is_prime, kernel, reduced, solved


def seen(row, numbers, p):
    return sum(a * b for a, b in zip(row, numbers)) % p


def spanned(matrix, many, p):
    """All combinations of the rows of a matrix, listed."""
    return {tuple(sum(t * row[x] for t, row in zip(times, matrix)) % p for x in range(many))
            for times in product(range(p), repeat=len(matrix))}


def is_reduced(matrix, many):
    last = -1
    for at, row in enumerate(matrix):
        places = [x for x in range(many) if row[x] != 0]
        if not places or places[0] <= last or row[places[0]] != 1:
            return False
        last = places[0]
        if any(other[last] != 0 for y, other in enumerate(matrix) if y != at):
            return False
    return True


def matrices(p, counts, seeds):
    for rows, many in counts:
        for seed in range(seeds):
            told = numbers_from(seed * 64 + rows * 8 + many, 0, 2 * p)
            yield tuple(tuple(max(0, next(told) - p - 1) for _ in range(many)) for _ in range(rows)), many


class Primes(unittest.TestCase):
    def test_small_ones_are_as_a_sieve_tells(self):
        for p in range(2000):
            self.assertIs(is_prime(p), p > 1 and all(p % d for d in range(2, p)), p)

    def test_the_limits(self):
        for p in (2, 3, 5, 999983, 1000003):
            self.assertIs(is_prime(p), True)
        for p in (1000001, 1000002, 1000004, 1000033, 1000037, 1, 0, -2, -7, 994009, 10 ** 999, -10 ** 999):
            self.assertIs(is_prime(p), False)

    def test_the_judge_raises_nothing(self):
        for thing in ODD + (nested(50), tuple(range(9999)), "7", (7,)):
            self.assertIs(is_prime(thing), False)


class Inverses(unittest.TestCase):
    def test_the_example(self):
        self.assertEqual(inverse(3, 7), 5)

    def test_all_of_small_primes(self):
        for p in (2, 3, 5, 7, 31, 101):
            for a in range(-2 * p, 3 * p):
                if a % p:
                    b = inverse(a, p)
                    self.assertTrue(0 <= b < p and a * b % p == 1, (a, p))

    def test_the_greatest_prime_and_numbers_of_any_size(self):
        for p in (1000003, 5, 2 ** 61 - 1):
            for a in (1, 2, p - 1, p + 1, -1, 10 ** 60 + 7, -10 ** 60 + 11):
                b = inverse(a, p)
                self.assertTrue(0 <= b < p and a * b % p == 1)


class Matrices(unittest.TestCase):
    def test_the_examples(self):
        self.assertEqual(reduced(((2, 4), (1, 2)), 2, 7), ((1, 2),))
        self.assertEqual(kernel(((1, 2),), 2, 7), ((1, 3),))
        self.assertEqual(solved(((1, 2),), 2, (3,), 7), ((3, 0), ((1, 3),)))
        self.assertIsNone(solved(((1, 2), (2, 4)), 2, (3, 5), 7))
        self.assertEqual(kernel((), 2, 7), ((1, 0), (0, 1)))

    def test_without_rows_or_columns(self):
        self.assertEqual(reduced((), 3, 5), ())
        self.assertEqual(reduced((), 0, 5), ())
        self.assertEqual(reduced(((), ()), 0, 5), ())
        self.assertEqual(reduced(((0, 0), (0, 0)), 2, 5), ())
        self.assertEqual(kernel((), 0, 5), ())
        self.assertEqual(kernel(((), ()), 0, 5), ())
        self.assertEqual(kernel(((0, 0),), 2, 5), ((1, 0), (0, 1)))
        self.assertEqual(kernel(((1, 0), (0, 3)), 2, 5), ())
        self.assertEqual(solved((), 2, (), 5), ((0, 0), ((1, 0), (0, 1))))
        self.assertEqual(solved((), 0, (), 5), ((), ()))
        self.assertEqual(solved(((), ()), 0, (0, 0), 5), ((), ()))
        self.assertIsNone(solved(((), ()), 0, (0, 1), 5))
        self.assertIsNone(solved(((0, 0),), 2, (4,), 5))
        self.assertEqual(solved(((0, 0),), 2, (0,), 5), ((0, 0), ((1, 0), (0, 1))))

    def test_reduced_spans_the_same_in_the_one_form(self):
        for p in (2, 3, 5):
            for matrix, many in matrices(p, ((1, 1), (1, 3), (2, 2), (2, 4), (3, 3), (3, 4), (4, 2)), 8):
                told = reduced(matrix, many, p)
                self.assertTrue(is_reduced(told, many), (matrix, told))
                self.assertEqual(spanned(told, many, p), spanned(matrix, many, p))

    def test_kernel_spans_all_that_is_not_seen(self):
        for p in (2, 3, 5):
            for matrix, many in matrices(p, ((0, 2), (1, 1), (1, 3), (2, 2), (2, 4), (3, 3), (4, 3)), 8):
                told = kernel(matrix, many, p)
                self.assertTrue(is_reduced(told, many))
                unseen = {v for v in product(range(p), repeat=many) if all(seen(row, v, p) == 0 for row in matrix)}
                self.assertEqual(spanned(told, many, p), unseen)

    def test_solved_is_the_one_that_is_nought_elsewhere(self):
        for p in (2, 5):
            for matrix, many in matrices(p, ((1, 2), (2, 2), (2, 3), (3, 3), (3, 2)), 8):
                firsts = [row.index(1) for row in reduced(matrix, many, p)]
                for right in product(range(p), repeat=len(matrix)):
                    fit = [v for v in product(range(p), repeat=many)
                           if all(seen(row, v, p) == r for row, r in zip(matrix, right))]
                    told = solved(matrix, many, right, p)
                    if not fit:
                        self.assertIsNone(told)
                    else:
                        one = [v for v in fit if all(v[x] == 0 for x in range(many) if x not in firsts)]
                        self.assertEqual([told], [(v, kernel(matrix, many, p)) for v in one])

    def test_a_great_prime(self):
        p = 1000003
        matrix = ((2, 1000002, 500000), (4, 3, 77), (6, 2, 500077))
        told = reduced(matrix, 3, p)
        self.assertTrue(is_reduced(told, 3))
        self.assertEqual(len(told), 2)
        (unseen,) = kernel(matrix, 3, p)
        self.assertTrue(all(seen(row, unseen, p) == 0 for row in matrix))
        found, _ = solved(matrix, 3, (1, 2, 3), p)
        self.assertEqual([seen(row, found, p) for row in matrix], [1, 2, 3])
        self.assertIsNone(solved(matrix, 3, (1, 2, 4), p))


if __name__ == "__main__":
    unittest.main()
