import unittest

from helper import ODD, nested, replaced, table_of, what_of
from twicemany.banks import Bank
from twicemany.errors import BadSchema
from twicemany.racks import Rack
from twicemany.schemas import made_schema

RESERVED = ("row deal rec num need else if keep does show audit sum least most above keeps undo redo not and or").split()
SCHEMA = ((("ann", 100), ("bob", 100)), (("shop", 100),))


def bank_of(p=257, n=5, k=2, rows=4, wide=1):
    return Bank(Rack((p, wide, n, k, 0, 0, table_of(1, p, n, 2)), rows))


def names(many, start=0):
    return tuple(("r" + str(start + number), 2) for number in range(many))


class Right(unittest.TestCase):
    def right(self, bank, schema):
        self.assertEqual(made_schema(bank, schema), schema)

    def test_schemas_are_returned(self):
        bank = bank_of()
        self.right(bank, SCHEMA)
        self.right(bank, ((("a", 2),),))
        self.right(bank, ((("z9", 257), ("abcdefghijkl", 2)), (("a00000000000", 256),), (("x", 100),)))

    def test_names(self):
        good = ["a", "z", "a0", "z9", "row1", "rows", "deals", "sums", "ror", "i", "abcdefghijkl", "a12345678901", "nota"]
        for name in good:
            self.right(bank_of(), (((name, 2),),))
        bad = ["", "A", "0", "9a", "aB", "a_b", "a b", " a", "a ", "a-b", "abcdefghijklm", "a" * 13, "a.b", "_a", "a\n",
               "\u00e9", "a\u00e9", "a\u0663", "\u0430", "aZ", "a{", "a`", "a:", "a/", None, True, 3, ("a",), (), 10 ** 900]
        for name in bad + RESERVED:
            self.assertEqual(what_of(self, BadSchema, made_schema, bank_of(), (((name, 2),),)), 0, name)
            self.assertEqual(what_of(self, BadSchema, made_schema, bank_of(), SCHEMA[:1] + ((("x", 2), (name, 2)),)), 1)

    def test_sizes(self):
        for p in (257, 1009, 1000003):
            bank = bank_of(p)
            for size in (2, 3, 256, 257, p - 1, p):
                self.right(bank, ((("a", 5), ("b", size)),))
            for size in (None, True, False, "", "2", (), (2,), -2, 0, 1, p + 1, 10 ** 900):
                self.assertEqual(what_of(self, BadSchema, made_schema, bank, ((("a", 5), ("b", size)),)), 0)

    def test_as_many_rows_as_the_bank_has_less_one(self):
        for rows in (2, 3, 16):
            bank = bank_of(rows=rows)
            many = tuple((("r" + str(row), 9),) for row in range(rows))
            self.right(bank, many[:-1])
            self.right(bank, many[:1])
            self.assertEqual(what_of(self, BadSchema, made_schema, bank, many), rows - 1)
            self.assertEqual(what_of(self, BadSchema, made_schema, bank, many + (None,)), rows - 1)
        self.assertEqual(what_of(self, BadSchema, made_schema, bank_of(rows=1), SCHEMA), 0)
        self.assertEqual(what_of(self, BadSchema, made_schema, bank_of(rows=1), (None,)), 0)

    def test_as_many_records_as_the_bank_has_cells_less_one(self):
        for n in range(3, 9):
            bank = bank_of(n=n)
            self.right(bank, (names(n - 1), names(n - 1, 10)))
            self.assertEqual(what_of(self, BadSchema, made_schema, bank, (names(n - 1), names(n, 10))), 1)
        self.assertEqual(what_of(self, BadSchema, made_schema, bank_of(n=8), (names(8),)), 0)

    def test_the_shape_need_not_stand_and_cells_may_be_wide(self):
        self.right(Bank(Rack((257, 16, 3, 2, 2, 0, ()), 3)), SCHEMA)
        self.right(Bank(Rack((257, 2, 3, 3, 0, 1, ()), 3)), SCHEMA)


class Wrong(unittest.TestCase):
    def wrong(self, thing, what, bank=None):
        self.assertEqual(what_of(self, BadSchema, made_schema, bank or bank_of(), thing), what, thing)

    def test_what_is_no_tuple_or_an_empty_one(self):
        for thing in (None, True, False, 0, "", "abc", (), 10 ** 900, list(SCHEMA)):
            self.wrong(thing, -1)

    def test_banks_that_are_too_small(self):
        self.wrong(SCHEMA, -1, bank_of(k=1))
        self.wrong(SCHEMA, -1, bank_of(p=251))
        self.wrong(SCHEMA, -1, bank_of(p=5))
        self.wrong(SCHEMA, -1, bank_of(n=2))
        for bank in (bank_of(k=1), bank_of(p=251), bank_of(n=2)):
            self.wrong((None,), -1, bank)
        self.assertEqual(made_schema(bank_of(p=257, n=3, k=2, rows=3), SCHEMA), SCHEMA)
        self.assertEqual(made_schema(bank_of(p=257, n=3, k=3, rows=3), SCHEMA), SCHEMA)

    def test_the_first_row_that_is_none(self):
        pairs = (None, True, 3, "ab", (), ("a",), ("a", 2, 2), ["a", 2], (2, "a"), ("a", None), (None, 2), (("a", 2),))
        rows = (None, True, 3, "", "ab", (), [("a", 2)], ("a", 2), nested(49)) + tuple((pair,) for pair in pairs)
        rows += tuple((("x", 2), pair) for pair in pairs)
        for row in rows:
            self.wrong((row,), 0)
            self.wrong((row, None), 0)
            self.wrong(replaced(SCHEMA, 1, row), 1)
            self.wrong(SCHEMA + (row,), 2)
        for thing in ODD:
            if isinstance(thing, tuple) and thing:
                self.wrong(thing, 0)

    def test_a_name_twice(self):
        self.wrong(((("a", 2), ("a", 3)),), 0)
        self.wrong(((("a", 2), ("b", 2), ("a", 3)),), 0)
        self.wrong(((("a", 2),), (("b", 2), ("a", 2))), 1)
        self.wrong(((("a", 2),), (("b", 2),), (("a", 2),)), 2)
        self.wrong(((("a", 2),), (("b", 2), ("b", 2)), (("a", 2),)), 1)
        self.wrong(((("a", 2),), (("a", 2),), None), 1)


if __name__ == "__main__":
    unittest.main()
