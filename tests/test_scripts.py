"""Scripts of changes, losses, shelves replaced and trusted, and mends, as [36] tells them, each row against a plain
row kept beside it."""

import unittest

from helper import numbers_from, ones, put_row, striped, subsets
from twicemany.banks import Bank
from twicemany.finder import finder
from twicemany.judge import stands
from twicemany.mends import whole_row
from twicemany.racks import Rack
from twicemany.readings import is_whole

SMALL = (
    (5, 1, 2, 2, 0, 0, ((3, 1), (2, 2), (3, 4))),
    (5, 1, 2, 2, 0, 1, ((3, 1), (2, 2), (3, 4))),
)


def found(p, wide, n, k, e, manner, c):
    return p, wide, n, k, e, manner, finder(p, n, k, e, manner, c, 0, 500)[1]


SHAPES = SMALL + (
    (7, 1, 2, 2, 1, 0, ((2, 5), (4, 2), (6, 2), (5, 1))),
    (7, 1, 3, 2, 0, 0, ((2, 6, 3), (5, 6, 5), (4, 4, 5), (4, 3, 3))),
    (31, 1, 3, 2, 0, 1, ((8, 12, 18), (11, 29, 17), (26, 19, 17))),
    found(1009, 2, 3, 2, 1, 0, 5), found(1000003, 1, 2, 2, 2, 0, 6), found(31, 3, 2, 1, 2, 0, 4),
    found(7, 1, 2, 1, 1, 0, 3), found(1009, 2, 3, 3, 0, 1, 5), found(1000003, 1, 3, 3, 0, 0, 6),
    found(5, 2, 3, 1, 0, 0, 1), found(5, 1, 4, 1, 0, 1, 0),
)


class Script:
    """A rack, and beside it for each row the plain rows that it may be."""

    def __init__(self, test, shape, seed):
        self.test = test
        self.shape = shape
        self.told = numbers_from(seed, 0, 10 ** 8)
        self.rack = Rack(shape, 1 + seed % 4)
        self.bank = Bank(self.rack)
        self.plain = [{((0,) * shape[1],) * shape[2]} for _ in range(self.rack.rows)]
        self.came = set()

    def choose(self, many):
        return next(self.told) % many

    def part(self, things):
        return tuple(index for index in range(len(things)) if self.choose(2))

    def stop(self, code):
        """Do a code, or stop it anywhere; return whether it was stopped."""
        if self.choose(3) == 0:
            self.bank.do(code)
            return False
        many = self.choose(len(code) + 1)
        self.bank.stop(code, many, self.part(code[many]) if many < len(code) else ())
        return True

    def change(self):
        row = self.choose(self.rack.rows)
        cells = sorted({self.choose(self.shape[2]) for _ in range(self.choose(self.shape[3] + 1))})
        p, wide = self.shape[:2]
        changes = tuple((x, tuple(self.choose(p) for _ in range(wide))) for x in cells)
        (ahead,) = self.plain[row]
        behind = tuple(dict(changes).get(x, cell) for x, cell in enumerate(ahead))
        code = self.bank.changed(row, changes)
        if self.choose(3) == 0 and self.shape[4] > 0:
            # A loss may come between, and the writes to this shelf fall away.
            self.lose()
        stopped = self.stop(code)
        self.plain[row] = {ahead, behind} if stopped else {behind}

    def lose(self):
        states = self.rack.states()
        shelf = self.choose(len(states))
        others = sum(state != "kept" for at, state in enumerate(states) if at != shelf)
        if others < self.shape[4]:
            self.rack.lose(shelf)
            self.came.add("lost")

    def replace(self):
        states = self.rack.states()
        if "lost" in states:
            self.rack.replace(states.index("lost"))
            self.came.add("replaced")

    def part_of_mend(self):
        ahead = [whole_row(self.rack, row) for row in range(self.rack.rows)]
        if self.stop(self.bank.mended()):
            self.came.add("mend stopped")
        self.test.assertEqual([whole_row(self.rack, row) for row in range(self.rack.rows)], ahead)

    def look(self):
        for row, plain in enumerate(self.plain):
            self.test.assertIn(whole_row(self.rack, row), plain)

    def mend(self):
        self.bank.do(self.bank.mended())
        self.test.assertEqual(self.bank.mended(), ())
        for row in range(self.rack.rows):
            self.test.assertTrue(is_whole(self.shape, self.rack.left(row)))
            told = self.bank.row(row)
            self.test.assertIn(told, self.plain[row])
            if len(self.plain[row]) == 2:
                self.came.add("lesser" if told == min(self.plain[row]) else "greater")
            self.plain[row] = {told}
            full = striped(self.shape, told)
            cells = [self.rack.cell(row, shelf) for shelf in range(len(full))]
            self.test.assertTrue(all(cell in (None, other) for cell, other in zip(cells, full)))

    def trust(self):
        if "raw" in self.rack.states():
            self.came.add("trusted")
        self.rack.trust()
        self.test.assertNotIn("raw", self.rack.states())

    def run(self, many):
        for _ in range(many):
            self.change()
            self.look()
            for _ in range(self.choose(5)):
                (self.lose, self.replace, self.part_of_mend)[self.choose(3)]()
                self.look()
            self.mend()
            self.look()
            if self.choose(2):
                self.trust()
                self.look()
            for _ in range(self.choose(3)):
                (self.lose, self.replace, self.part_of_mend)[self.choose(3)]()
                self.look()
            self.mend()


class Scripts(unittest.TestCase):
    def test_all_that_may_come(self):
        for shape in SHAPES:
            self.assertIs(stands(shape), True, shape)
            came = set()
            for seed in range(8):
                script = Script(self, shape, seed)
                script.run(25)
                came |= script.came
            every = {"lesser", "greater", "mend stopped"}
            if shape[4] > 0:
                every |= {"lost", "replaced", "trusted"}
            self.assertEqual(came, every, shape)

    def test_each_stop_of_each_change(self):
        for shape in SMALL:
            for ahead in (ones(0, 0), ones(3, 1)):
                for a in range(5):
                    for b in range(5):
                        self.hold(shape, ahead, ones(a, b))

    def hold(self, shape, ahead, behind):
        rack = Rack(shape, 1)
        put_row(rack, 0, ahead)
        code = Bank(rack).changed(0, tuple(enumerate(behind)))
        for many in range(len(code) + 1):
            for came in subsets(range(len(code[many]) if many < len(code) else 0)):
                put_row(rack, 0, ahead)
                bank = Bank(rack)
                bank.stop(code, many, came)
                told = whole_row(rack, 0)
                self.assertIn(told, (ahead, behind))
                if many == len(code):
                    self.assertEqual(told, behind)
                elif (many, came) == (0, ()):
                    self.assertEqual(told, ahead)
                mend = bank.mended()
                for part in subsets(range(len(mend[0]))) if mend else ():
                    bank.stop(mend, 0, part)
                    self.assertEqual(whole_row(rack, 0), told)
                bank.do(bank.mended())
                self.assertEqual(rack.left(0), striped(shape, told))
                self.assertEqual(bank.row(0), told)

    def test_a_whole_row_stays_behind_each_further_loss(self):
        for shape in SHAPES:
            if shape[4] > 0:
                rack = Rack(shape, 1)
                row = tuple(tuple((7 * x + q + 3) % shape[0] for q in range(shape[1])) for x in range(shape[2]))
                put_row(rack, 0, row)
                shelves = range(len(shape[6]) + shape[2])
                for lost in subsets(shelves):
                    if len(lost) <= shape[4]:
                        for shelf in lost:
                            rack.lose(shelf)
                        self.assertEqual(Bank(rack).row(0), row)
                        for shelf in lost:
                            rack.replace(shelf)
                        rack_bank = Bank(rack)
                        rack_bank.do(rack_bank.mended())
                        rack.trust()
                        self.assertEqual(rack.left(0), striped(shape, row))


if __name__ == "__main__":
    unittest.main()
