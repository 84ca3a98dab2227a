"""Scripts of calls as [54] tells them: each call stopped in each of its steps, the house opened anew, that opening
stopped likewise, shelves lost, replaced and trusted, and the worths held against those of plain calls."""

import unittest

from helper import Draw, PlainCall, drawn_args
from twicemany.banks import Bank
from twicemany.bookreader import read_book
from twicemany.dealing import House, rest, steps
from twicemany.errors import Refused
from twicemany.finder import table_at
from twicemany.houses import do_steps, lay, worths_of
from twicemany.judge import stands
from twicemany.racks import Rack

# p, wide, n, k, e, manner, c and the number of a table with which the shape stands.
SHAPES = (
    (1009, 1, 3, 2, 0, 0, 4, 0), (1009, 2, 3, 2, 0, 1, 3, 0), (1009, 1, 3, 2, 1, 0, 5, 4),
    (1000003, 1, 3, 2, 2, 0, 6, 0),
    (1009, 1, 3, 3, 0, 1, 5, 0), (1009, 1, 3, 3, 0, 0, 6, 1),
)
WIDER = ((1009, 1, 5, 2, 0, 0, 4, 2), (1009, 1, 5, 2, 0, 1, 3, 0))
NARROW_BOOK = (
    "row ann 100, bob 100; row shop 100, till 200",
    "deal move(num n) { need not ann < n else short; ann := ann - n; shop := shop + n }",
    "deal through(rec r) { r := r + 3; till := r; r := till - 1; if r < 20 { shop := r; till := shop + till } else { bob := bob - 1 };"
    " need not till = 7 else odd }",
    "deal inner(num n) { ann := ann + n; bob := bob - n }",
    "deal both() { inner(3); if ann < 10 { inner(shop * 0 + 2); move(1) } else { move(ann - 5) }; till := ann + bob + shop }",
    "deal same(rec r) { r := r + 1; till := till + 1; r := r - 1; till := till - 1 }",
    "deal one(rec r) { r := 10 - r; r := r + 1 }",
    "deal many() { ann := 9; till := till - 1; bob := 8; shop := 7; ann := ann - 1; till := till + 2; shop := shop - 1 }",
    "keep ann + bob + shop < 190", "keep not till = 77",
)
WIDE_BOOK = (
    "row ann 300, bob 300, cat 9, dog 9; row shop 100, till 200; row box 900",
    "deal pay(rec a, rec b, num n) { need not a < n else short; a := a - n; b := b + n }",
    "deal round(rec a, rec b, rec c) { pay(a, b, 1); pay(b, c, 2); pay(c, a, 1); box := a + b + c }",
    "deal chance(rec a, num n, rec b) { if a * n < 200 { a := a + n; if b = a { b := 0 } } else { pay(a, b, a - n) }; cat := 1; dog := 2;"
    " cat := cat + dog; need a < 290 else much }",
    "keep shop < 99",
)


class Script:
    """A house with a script of calls, and beside it the plain worths that it may have."""

    def __init__(self, test, numbers, seed):
        p, wide, n, k, e, manner, c, number = numbers
        self.test, self.draw, self.e = test, Draw(seed), e
        texts = NARROW_BOOK if n == 3 else WIDE_BOOK
        self.rack = Rack((p, wide, n, k, e, manner, table_at(p, n, c, number)),
                         len(texts[0].split(";")) + 1 + seed % 2)
        self.bank = Bank(self.rack)
        self.book = read_book(self.bank, texts)
        sizes = [size for row in self.book[0] for _, size in row]
        self.plain = tuple(self.draw.below(min(size, 12)) for size in sizes)
        do_steps(self.bank, lay(self.bank, self.book[0], self.plain))
        self.may = {self.plain}
        self.came = set()

    def lose(self):
        """Lose a shelf, replace one, or neither."""
        states = self.rack.states()
        way = self.draw.below(6) if self.e else 5
        if way < 2 and sum(state != "kept" for state in states) < self.e:
            self.rack.lose(self.draw.below(len(states)))
            self.came.add("lost")
        elif way < 4 and "lost" in states:
            self.rack.replace(states.index("lost"))
            self.came.add("replaced")

    def stop(self, code):
        """Stop a code anywhere, also ahead of all of it and behind it."""
        if self.draw.below(3) == 0:
            self.lose()
        many = self.draw.below(len(code) + 1)
        self.bank.stop(code, many, self.draw.part(code[many]) if many < len(code) else ())

    def code_of(self, step):
        row, changes = step
        wide = self.rack.shape[1]
        return self.bank.changed(row, tuple((cell, (number,) + (0,) * (wide - 1)) for cell, number in changes))

    def open_house(self):
        """Open the house, stopped some times, and once not."""
        for _ in range(self.draw.below(4)):
            self.lose()
            code = self.bank.mended()
            if self.draw.below(2):
                self.came.add("mend stopped")
                self.stop(code)
                continue
            self.bank.do(code)
            left = rest(self.bank, self.book)
            if left:
                at = self.draw.below(len(left))
                do_steps(self.bank, left[:at])
                self.came.add("opening stopped")
                self.stop(self.code_of(left[at]))
        self.lose()
        House(self.bank, self.book)
        self.look()

    def look(self):
        worths = worths_of(self.bank, self.book[0])
        self.test.assertIn(worths, self.may)
        if len(self.may) > 1:
            self.came.add("without" if worths == self.plain else "whole")
        self.plain = worths
        self.may = {worths}
        self.test.assertEqual(rest(self.bank, self.book), ())
        self.test.assertEqual([self.bank.row(row)[0] for row in range(len(self.book[0]) + 1)],
                              [(0,) * self.rack.shape[1]] * (len(self.book[0]) + 1))
        PlainCall((self.book[0], (("t", (), ()),), self.book[2]), worths, "t", ())
        if self.draw.below(2):
            if "raw" in self.rack.states():
                self.came.add("trusted")
            self.rack.trust()

    def call(self, name, args):
        """The steps of a call, held against its plain reading; () if it is refused or changes nothing."""
        try:
            plain = PlainCall(self.book, self.plain, name, args)
        except Refused as error:
            with self.test.assertRaises(error.__class__) as caught:
                steps(self.bank, self.book, name, args)
            self.test.assertEqual(caught.exception.what, error.what)
            self.came.add("refused")
            return ()
        told = steps(self.bank, self.book, name, args)
        self.behind = tuple(plain.worths)
        self.test.assertEqual(told == (), self.behind == self.plain)
        self.came.add(min(2, len(told)))
        return told

    def do(self, told, at):
        """Do the steps of a call, stopped in the one told, or not at all if there is none of this index."""
        do_steps(self.bank, told[:at])
        places = [index for index, (row, changes) in enumerate(told) if row == 0 and changes[0][0] == 0]
        begins = places[0] if places else 0
        if at >= len(told):
            self.may = {self.behind}
            self.test.assertEqual(worths_of(self.bank, self.book[0]), self.behind)
            return
        self.stop(self.code_of(told[at]))
        # It may be that the writes of this step came wholly.
        self.may = {self.plain, self.behind} if at <= begins else {self.behind}
        if at < begins:
            self.may = {self.plain}

    def some_call(self):
        name, params, _ = self.draw.of(self.book[1])
        return self.call(name, drawn_args(self.draw, self.book[0], params, 20))

    def run(self, many):
        for _ in range(many):
            self.lose()
            told = self.some_call()
            if told:
                self.do(told, self.draw.below(len(told) + 1))
                self.open_house()
            elif self.draw.below(2):
                self.open_house()


class Scripts(unittest.TestCase):
    def test_the_shapes_stand(self):
        for p, wide, n, k, e, manner, c, number in SHAPES + WIDER:
            self.assertIs(stands((p, wide, n, k, e, manner, table_at(p, n, c, number))), True)

    def test_all_that_may_come(self):
        for numbers in SHAPES + WIDER:
            came = set()
            for seed in range(5):
                script = Script(self, numbers, seed)
                script.run(30)
                came |= script.came
            every = {"refused", 0, 1, 2, "mend stopped", "opening stopped", "whole", "without"}
            if numbers[4] > 0:
                every |= {"lost", "replaced", "trusted"}
            if numbers in WIDER:
                came.add(0)
            self.assertEqual(came, every, numbers)

    def test_each_step_of_each_call(self):
        """Each call stopped in each of its steps, some drawn lots of writes for each."""
        for numbers in SHAPES[:3] + WIDER[1:]:
            for seed in range(2):
                script = Script(self, numbers, seed)
                for name, params, _ in script.book[1]:
                    self.each_step(script, name, drawn_args(script.draw, script.book[0], params, 20))

    def each_step(self, script, name, args):
        at = 0
        while True:
            told = script.call(name, args)
            if not told or at > len(told):
                return
            for _ in range(2):
                ahead = script.plain
                script.do(told, at)
                script.open_house()
                do_steps(script.bank, lay(script.bank, script.book[0], ahead))
                script.plain, script.may = ahead, {ahead}
            at += 1


if __name__ == "__main__":
    unittest.main()
