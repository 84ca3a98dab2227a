import unittest

from helper import (Refusing, both_ends, do_clash, every_came, every_row, left_of, ones, put_row, replaced, seen,
                    striped, subsets, what_of)
from twicemany.codes import do, made_code, stop
from twicemany.errors import BadNumber, Blind, Spoilt, Torn
from twicemany.judge import stands
from twicemany.mends import mend, mend_all, whole_row
from twicemany.racks import Rack

SHAPE = (5, 1, 2, 2, 0, 0, ((3, 1), (2, 2), (3, 4)))
CHANGE = (((0, 0, (3,)), (0, 1, (2,)), (0, 2, (3,)), (0, 3, (1,))),)
LOSS = (7, 1, 2, 2, 1, 0, ((2, 5), (4, 2), (6, 2), (5, 1)))
FALLS = (7, 1, 3, 2, 1, 0, ((1, 0, 0), (0, 1, 0), (0, 0, 1)))


def filled(shape, lefts):
    """A rack in which this lies; None is a lost shelf."""
    rack = Rack(shape, len(lefts))
    for row, left in enumerate(lefts):
        for shelf, cell in enumerate(left):
            if cell is None:
                rack.lose(shelf)
            else:
                rack.put(row, shelf, cell)
    return rack


class Mends(Refusing):
    def told(self, rack, call, *args):
        """What a call returns that changes nothing."""
        ahead = seen(rack)
        found = call(rack, *args)
        self.assertEqual(seen(rack), ahead)
        return found

    def test_the_example(self):
        rack = Rack(SHAPE, 1)
        stop(rack, CHANGE, 0, (0, 3))
        self.assertEqual(rack.left(0), ones(3, 0, 0, 1, 0))
        self.assertEqual(self.told(rack, whole_row, 0), ones(0, 0))
        self.assertEqual(self.told(rack, mend, 0), (((0, 0, (0,)), (0, 3, (0,))),))
        self.assertEqual(self.told(rack, mend_all), (((0, 0, (0,)), (0, 3, (0,))),))

    def test_more_of_the_row_behind(self):
        rack = Rack(SHAPE, 1)
        stop(rack, CHANGE, 0, (0, 1, 3))
        self.assertEqual(whole_row(rack, 0), ones(1, 0))
        self.assertEqual(mend(rack, 0), (((0, 2, (3,)),),))

    def test_a_whole_row_needs_no_mend(self):
        for many in (1, 16):
            rack = Rack(SHAPE, many)
            put_row(rack, many - 1, ones(3, 4))
            self.assertEqual(self.told(rack, mend, many - 1), ())
            self.assertEqual(self.told(rack, mend_all), ())
            self.assertEqual(whole_row(rack, many - 1), ones(3, 4))

    def test_waited(self):
        rack = filled(replaced(SHAPE, 5, 1), [ones(3, 2, 0, 0, 0)])
        self.assertEqual(mend(rack, 0), (((0, 0, (0,)), (0, 1, (0,))),))
        sent = striped(SHAPE, ones(1, 1))[:3]
        rack = filled(replaced(SHAPE, 5, 1), [sent + ones(0, 0)])
        self.assertEqual(mend(rack, 0), (((0, 0, (0,)), (0, 1, (0,)), (0, 2, (0,))),))
        rack = filled(replaced(SHAPE, 5, 1), [sent + ones(1, 0)])
        self.assertEqual(mend(rack, 0), (((0, 4, (1,)),),))

    def test_lost_and_raw_shelves(self):
        row = ones(3, 5)
        full = striped(LOSS, row)
        for shelf in range(6):
            rack = Rack(LOSS, 2)
            put_row(rack, 1, row)
            rack.lose(shelf)
            self.assertEqual(whole_row(rack, 1), row)
            self.assertEqual(mend(rack, 1), ())
            rack.replace(shelf)
            self.assertEqual(self.told(rack, mend, 1), (((1, shelf, full[shelf]),),) if full[shelf] != (0,) else ())
            self.assertEqual(self.told(rack, mend_all), mend(rack, 1))
            other = (shelf + 1) % 6
            rack.put(1, other, ((full[other][0] + 1) % 7,))
            writes = sorted([(1, other, full[other])] + [(1, shelf, full[shelf])] * (full[shelf] != (0,)))
            self.assertEqual(mend(rack, 1), (tuple(writes),))
            do(rack, mend(rack, 1))
            self.assertEqual(mend_all(rack), ())
            self.assertEqual(rack.cell(1, shelf), full[shelf])
            rack.trust()
            self.assertEqual(rack.left(1), full)

    def test_a_raw_shelf_is_not_read(self):
        rack = Rack((5, 1, 1, 1, 1, 0, ((1,), (1,), (1,))), 1)
        rack.lose(1)
        rack.replace(1)
        for shelf, number in ((0, 3), (1, 1), (2, 1), (3, 3)):
            rack.put(0, shelf, (number,))
        self.assertEqual(whole_row(rack, 0), ones(3))
        self.assertEqual(mend(rack, 0), (((0, 1, (3,)), (0, 2, (3,))),))

    def test_mend_all_is_in_order(self):
        rack = Rack(SHAPE, 16)
        for row in (0, 3, 15):
            put_row(rack, row, ones(row % 5, 2))
            rack.put(row, 4, (3,))
        self.assertEqual(mend_all(rack), tuple(((row, 4, (2,)),) for row in (0, 3, 15)))
        self.assertEqual(made_code(rack, mend_all(rack)), mend_all(rack))
        do(rack, mend_all(rack))
        self.assertEqual([whole_row(rack, row) for row in (0, 3, 15)], [ones(0, 2), ones(3, 2), ones(0, 2)])

    def test_cells_of_two_numbers(self):
        wide = replaced(SHAPE, 1, 2)
        rack = Rack(wide, 1)
        put_row(rack, 0, ((1, 2), (2, 4)))
        self.assertEqual(rack.cell(0, 2), ((3 + 8) % 5, (6 + 16) % 5))
        rack.put(0, 2, (1, 3))
        self.assertEqual(mend(rack, 0), (((0, 2, (1, 2)),),))
        self.assertEqual(whole_row(rack, 0), ((1, 2), (2, 4)))


class Refused(Refusing):
    def test_numbers_of_rows(self):
        rack = Rack(SHAPE, 2)
        for row in (None, "", "1", (), (1,), True, -1, 2, 10 ** 900):
            self.assertEqual(self.refused(rack, BadNumber, whole_row, rack, row), row)
            self.assertEqual(self.refused(rack, BadNumber, mend, rack, row), row)

    def test_spoilt(self):
        rack = Rack(SHAPE, 3)
        for shelf, cell in enumerate(ones(0, 0, 1, 3, 4)):
            rack.put(1, shelf, cell)
            rack.put(2, shelf, cell)
        for call in (whole_row, mend):
            self.assertEqual(self.refused(rack, Spoilt, call, rack, 1), 1)
            self.assertEqual(self.refused(rack, Spoilt, call, rack, 2), 2)
        self.assertEqual(self.refused(rack, Spoilt, mend_all, rack), 1)
        put_row(rack, 1, ones(2, 2))
        self.assertEqual(self.refused(rack, Spoilt, mend_all, rack), 2)

    def test_blind(self):
        rack = Rack((7, 1, 2, 2, 1, 0, ()), 2)
        rack.lose(1)
        for call, args in ((whole_row, (1,)), (mend, (0,)), (mend_all, ())):
            self.assertEqual(self.refused(rack, Blind, call, rack, *args), (1,))

    def test_torn(self):
        rack = Rack(FALLS, 2)
        rack.put(1, 0, (1,))
        for lost in ((), (2,)):
            for shelf in lost:
                rack.lose(shelf)
            for call, args in ((whole_row, (1,)), (mend, (1,)), (mend_all, ())):
                stories = self.refused(rack, Torn, call, rack, *args)
                self.assertTrue(do_clash(FALLS, lost, stories))
                self.assertEqual(left_of(FALLS, stories[0], lost), rack.left(1))

    def test_the_first_row_that_is_refused(self):
        rack = Rack(FALLS, 3)
        rack.put(1, 0, (1,))
        for shelf, cell in enumerate(ones(1, 2, 3, 4, 5, 6)):
            rack.put(2, shelf, cell)
        self.assertEqual(what_of(self, Spoilt, mend, rack, 2), 2)
        self.refused(rack, Torn, mend_all, rack)
        put_row(rack, 1, ones(1, 2, 3))
        self.assertEqual(self.refused(rack, Spoilt, mend_all, rack), 2)


class Stopped(unittest.TestCase):
    """Mends of whatever a stop of a change and a loss leave, stopped at every lot of their writes ([32])."""

    def hold(self, shape, ahead, every=1):
        self.assertIs(stands(shape), True)
        shelves = len(shape[6]) + shape[2]
        held = {}
        for story in stories_from(shape, ahead, every):
            for lost in subsets(range(shelves)):
                if len(lost) <= shape[4]:
                    left = left_of(shape, story, lost)
                    if left not in held:
                        held[left] = self.hold_one(shape, left)
                    self.assertIn(held[left], both_ends(story))
        return held

    def hold_one(self, shape, left):
        """Hold each stop of the mend of this and each stop of the mend of what is left then; return the row."""
        rack = filled(shape, [left])
        row = whole_row(rack, 0)
        full = striped(shape, row)
        first = mend(rack, 0)
        writes = tuple((0, shelf, full[shelf]) for shelf, cell in enumerate(left) if cell not in (None, full[shelf]))
        self.assertEqual(first, (writes,) if writes else ())
        for came in subsets(range(len(writes))):
            rack = filled(shape, [left])
            if first:
                stop(rack, first, 0, came)
            self.assertEqual(whole_row(rack, 0), row)
            self.hold_again(rack, row)
        return row

    def hold_again(self, rack, row):
        again = mend(rack, 0)
        left = rack.left(0)
        for came in subsets(range(len(again[0]))) if again else ():
            rack = filled(rack.shape, [left])
            stop(rack, again, 0, came)
            self.assertEqual(whole_row(rack, 0), row)
        rack = filled(rack.shape, [left])
        do(rack, again)
        self.assertEqual(rack.left(0), self.lossy(rack, row))
        self.assertEqual(mend(rack, 0), ())
        self.hold_whole(rack, row)

    def hold_whole(self, rack, row):
        """Of a row that is whole the same is told behind each further loss."""
        for shelf in range(len(rack.states())):
            if rack.shape[4] > rack.states().count("lost"):
                more = filled(rack.shape, [rack.left(0)])
                more.lose(shelf)
                self.assertEqual(whole_row(more, 0), row)

    def lossy(self, rack, row):
        full = striped(rack.shape, row)
        return tuple(None if way == "lost" else cell for way, cell in zip(rack.states(), full))

    def test_at_once(self):
        for ahead in (ones(0, 0), ones(4, 1)):
            rows = set(self.hold(SHAPE, ahead).values())
            self.assertTrue(ahead in rows and len(rows) > 5)

    def test_waited(self):
        rows = set(self.hold(replaced(SHAPE, 5, 1), ones(3, 1)).values())
        self.assertTrue(ones(3, 1) in rows and len(rows) > 5)

    def test_with_a_loss(self):
        shape = (7, 1, 2, 1, 1, 0, ((1, 6), (4, 5), (5, 4)))
        for ahead in (ones(0, 0), ones(2, 4)):
            self.assertTrue(len(set(self.hold(shape, ahead).values())) > 5)
        self.assertTrue(len(set(self.hold(LOSS, ones(3, 5), 11).values())) > 3)

    def test_cells_of_two_numbers_and_two_losses(self):
        rows = set(self.hold((5, 2, 1, 1, 2, 0, ((3,), (4,), (4,))), ((3, 1),)).values())
        self.assertTrue(len(rows) > 5)


def stories_from(shape, ahead, every):
    """All stories of a row whose row behind is one of every so many."""
    for behind in every_row(shape)[::every]:
        changes = tuple((x, cell) for x, cell in enumerate(behind) if cell != ahead[x])
        if len(changes) <= shape[3]:
            for came in every_came(shape, ahead, behind):
                yield ahead, changes, came


if __name__ == "__main__":
    unittest.main()
