"""Names, arguments and files of what has landed, as the document's interface lists them."""

import importlib
import inspect
import unittest

from twicemany.banks import Bank
from twicemany.dealing import House
from twicemany.desk import Desk
from twicemany.racks import Rack

INTERFACE = {
    "shapes": {"made_shape": ("thing",), "is_shape": ("thing",)},
    "rows": {
        "made_row": ("shape", "thing"), "sums": ("shape", "row"), "stripe": ("shape", "row"),
        "made_left": ("shape", "thing"), "lost_of": ("left",),
    },
    "stories": {
        "made_story": ("shape", "thing"), "is_story": ("shape", "thing"), "ends": ("story",),
        "left_by": ("shape", "story", "lost"), "clash_right": ("shape", "lost", "stories"),
    },
    "fields": {
        "is_prime": ("p",), "inverse": ("a", "p"), "reduced": ("matrix", "many", "p"),
        "kernel": ("matrix", "many", "p"), "solved": ("matrix", "many", "right", "p"),
    },
    "kinds": {"kinds": ("shape", "lost")},
    "judge": {
        "safe": ("shape", "lost"), "stands": ("shape",), "clash_in": ("shape", "lost"), "first_clash": ("shape",),
    },
    "fewer": {"fewer": ("shape",)},
    "finder": {
        "table_at": ("p", "n", "c", "number"), "finder": ("p", "n", "k", "e", "manner", "c", "first", "many"),
    },
    "readings": {"told": ("shape", "left"), "spread": ("shape", "left"), "is_whole": ("shape", "left")},
    "codes": {"made_code": ("rack", "thing"), "do": ("rack", "code"), "stop": ("rack", "code", "many", "came")},
    "mends": {"whole_row": ("rack", "row"), "mend": ("rack", "row"), "mend_all": ("rack",)},
    "banks": {"change": ("rack", "row", "changes")},
    "schemas": {"made_schema": ("bank", "thing")},
    "houses": {
        "made_worths": ("schema", "worths"), "worths_of": ("bank", "schema"), "do_steps": ("bank", "steps"),
        "lay": ("bank", "schema", "worths"),
    },
    "checker": {"made_book": ("bank", "thing")},
    "dealcodes": {
        "code": ("bank", "book", "deal"), "most": ("bank", "book", "deal"), "reach": ("bank", "book", "deal"),
        "kind": ("bank", "book", "deal"),
    },
    "calls": {
        "call": ("bank", "book", "worths", "deal", "args"), "way": ("bank", "book", "worths", "deal", "args"),
    },
    "dealing": {"steps": ("bank", "book", "deal", "args"), "rest": ("bank", "book")},
    "audits": {"audit": ("book", "worths", "question")},
    "bookreader": {
        "read_schema": ("bank", "text"), "read_deal": ("bank", "book", "text"), "read_keep": ("bank", "book", "text"),
        "read_book": ("bank", "texts"),
    },
    "printer": {
        "print_schema": ("bank", "schema"), "print_deal": ("bank", "book", "index"),
        "print_keep": ("bank", "book", "index"), "print_book": ("bank", "book"),
    },
}
CLASSES = {
    "racks": {"Rack": {
        "__init__": ("shape", "many"), "states": (), "cell": ("row", "shelf"), "left": ("row",),
        "put": ("row", "shelf", "cell"), "lose": ("shelf",), "replace": ("shelf",), "trust": (),
    }},
    "banks": {"Bank": {
        "__init__": ("rack",), "row": ("r",), "changed": ("r", "changes"), "mended": (), "do": ("code",),
        "stop": ("code", "many", "came"),
    }},
    "dealing": {"House": {"__init__": ("bank", "book")}},
    "desk": {"Desk": {
        "__init__": ("house",), "do": ("hand", "deal", "args"), "undo": ("hand",), "redo": ("hand",), "worths": (),
        "ask": ("question",), "row": ("text",),
    }},
}
# Files of which the interface says only that they are there.
FILES = ("errors", "deals", "openings")

SHAPE = (7, 1, 2, 2, 0, 0, ((6, 2), (5, 6), (3, 4)))
ROW = ((1,), (2,))
STORY = (ROW, (), ())
LEFT = ((0,), (3,), (4,), (3,), (2,))
CODE = (((0, 0, (1,)), (0, 4, (2,))),)
LOSSY = (257, 1, 3, 2, 1, 0, ((1, 2, 3), (4, 5, 6), (7, 8, 10)))
SCHEMA = ((("ann", 100), ("bob", 100)), (("shop", 100),))
GIVE = ("give", (("a", "rec"),), (("set", ("arg", "a"), ("num", 7)),))
BOOK = (SCHEMA, (GIVE,), (("less", ("worth", ("rec", "bob")), ("num", 9)),))
TEXTS = ("row ann 100", "deal t(num n) { ann := n }", "keep ann < 9")


def rack_of():
    """A new rack of two rows, in one of which a change was stopped."""
    rack = Rack(SHAPE, 2)
    rack.put(1, 0, (1,))
    return rack


def bank_of():
    return Bank(Rack(LOSSY, 3))


BY_NAME = (
    ("shapes", "made_shape", {"thing": SHAPE}), ("shapes", "is_shape", {"thing": SHAPE}),
    ("rows", "made_row", {"thing": ROW, "shape": SHAPE}), ("rows", "sums", {"row": ROW, "shape": SHAPE}),
    ("rows", "stripe", {"row": ROW, "shape": SHAPE}), ("rows", "lost_of", {"left": (None,)}),
    ("rows", "made_left", {"thing": (None,) * 5, "shape": SHAPE}),
    ("stories", "made_story", {"thing": STORY, "shape": SHAPE}),
    ("stories", "is_story", {"thing": STORY, "shape": SHAPE}), ("stories", "ends", {"story": STORY}),
    ("stories", "left_by", {"lost": (), "story": STORY, "shape": SHAPE}),
    ("stories", "clash_right", {"stories": (STORY, STORY), "lost": (), "shape": SHAPE}),
    ("fields", "is_prime", {"p": 7}), ("fields", "inverse", {"p": 7, "a": 3}),
    ("fields", "reduced", {"p": 7, "many": 1, "matrix": ((2,),)}),
    ("fields", "kernel", {"p": 7, "many": 1, "matrix": ((2,),)}),
    ("fields", "solved", {"p": 7, "right": (3,), "many": 1, "matrix": ((2,),)}),
    ("kinds", "kinds", {"lost": (), "shape": SHAPE}), ("judge", "safe", {"lost": (), "shape": SHAPE}),
    ("judge", "stands", {"shape": SHAPE}), ("judge", "clash_in", {"lost": (0, 1), "shape": SHAPE}),
    ("judge", "first_clash", {"shape": SHAPE}), ("fewer", "fewer", {"shape": (7, 1, 3, 2, 0, 0, ())}),
    ("finder", "table_at", {"number": 3, "c": 2, "n": 4, "p": 7}),
    ("finder", "finder", {"many": 9, "first": 2, "c": 3, "manner": 1, "e": 0, "k": 2, "n": 3, "p": 31}),
    ("readings", "told", {"left": LEFT, "shape": SHAPE}), ("readings", "spread", {"left": LEFT, "shape": SHAPE}),
    ("readings", "is_whole", {"left": LEFT, "shape": SHAPE}),
    ("codes", "made_code", {"thing": CODE, "rack": rack_of()}), ("codes", "do", {"code": CODE, "rack": rack_of()}),
    ("codes", "stop", {"came": (1,), "many": 0, "code": CODE, "rack": rack_of()}),
    ("mends", "whole_row", {"row": 1, "rack": rack_of()}), ("mends", "mend", {"row": 1, "rack": rack_of()}),
    ("mends", "mend_all", {"rack": rack_of()}),
    ("banks", "change", {"changes": ((0, (1,)),), "row": 0, "rack": rack_of()}),
    ("schemas", "made_schema", {"thing": SCHEMA, "bank": bank_of()}),
    ("houses", "made_worths", {"worths": (5, 0, 0), "schema": SCHEMA}),
    ("houses", "worths_of", {"schema": SCHEMA, "bank": bank_of()}),
    ("houses", "do_steps", {"steps": ((1, ((1, 5),)),), "bank": bank_of()}),
    ("houses", "lay", {"worths": (5, 0, 0), "schema": SCHEMA, "bank": bank_of()}),
    ("checker", "made_book", {"thing": BOOK, "bank": bank_of()}),
    ("dealcodes", "code", {"deal": "give", "book": BOOK, "bank": bank_of()}),
    ("dealcodes", "most", {"deal": "give", "book": BOOK, "bank": bank_of()}),
    ("dealcodes", "reach", {"deal": "give", "book": BOOK, "bank": bank_of()}),
    ("dealcodes", "kind", {"deal": "give", "book": BOOK, "bank": bank_of()}),
    ("calls", "call", {"args": ("ann",), "deal": "give", "worths": (5, 0, 0), "book": BOOK, "bank": bank_of()}),
    ("calls", "way", {"args": ("ann",), "deal": "give", "worths": (5, 0, 0), "book": BOOK, "bank": bank_of()}),
    ("dealing", "steps", {"args": ("ann",), "deal": "give", "book": BOOK, "bank": bank_of()}),
    ("dealing", "rest", {"book": BOOK, "bank": bank_of()}),
    ("audits", "audit", {"question": ("keeps",), "worths": (5, 9, 0), "book": BOOK}),
    ("bookreader", "read_schema", {"text": "row ann 100", "bank": bank_of()}),
    ("bookreader", "read_deal", {"text": "deal t() { ann := 1 }", "book": BOOK, "bank": bank_of()}),
    ("bookreader", "read_keep", {"text": "keep ann < 9", "book": BOOK, "bank": bank_of()}),
    ("bookreader", "read_book", {"texts": TEXTS, "bank": bank_of()}),
    ("printer", "print_schema", {"schema": SCHEMA, "bank": bank_of()}),
    ("printer", "print_deal", {"index": 0, "book": BOOK, "bank": bank_of()}),
    ("printer", "print_keep", {"index": 0, "book": BOOK, "bank": bank_of()}),
    ("printer", "print_book", {"book": BOOK, "bank": bank_of()}),
)


class Interface(unittest.TestCase):
    def test_names_arguments_and_files(self):
        for file, functions in INTERFACE.items():
            module = importlib.import_module("twicemany." + file)
            for name, arguments in functions.items():
                made = getattr(module, name)
                self.assertEqual(tuple(inspect.signature(made).parameters), arguments, name)
                self.assertEqual(made.__module__, "twicemany." + file)

    def test_arguments_by_name_and_by_position(self):
        told = []
        for file, name, arguments in BY_NAME:
            made = getattr(importlib.import_module("twicemany." + file), name)
            ordered = [arguments[word] for word in INTERFACE[file][name]]
            self.assertEqual(made(**arguments), made(*ordered), name)
            told.append((file, name))
        self.assertEqual(sorted(told), sorted((f, name) for f, names in INTERFACE.items() for name in names))

    def test_classes_and_their_own_methods(self):
        for file, classes in CLASSES.items():
            module = importlib.import_module("twicemany." + file)
            for name, methods in classes.items():
                made = getattr(module, name)
                self.assertEqual(made.__module__, "twicemany." + file)
                for method, arguments in methods.items():
                    self.assertIn(method, vars(made), name)
                    parameters = tuple(inspect.signature(vars(made)[method]).parameters)
                    self.assertEqual(parameters[1:], arguments, method)

    def test_methods_by_name(self):
        rack = Rack(many=2, shape=LOSSY)
        rack.put(cell=(0,), shelf=0, row=1)
        self.assertEqual(rack.cell(shelf=0, row=1), (0,))
        self.assertEqual(rack.left(row=1), ((0,),) * 6)
        rack.lose(shelf=0)
        rack.replace(shelf=0)
        rack.trust()
        self.assertEqual(rack.states(), ("kept",) * 6)
        bank = Bank(rack=rack)
        code = bank.changed(changes=((0, (3,)),), r=1)
        bank.stop(came=(0,), many=0, code=code)
        bank.do(code=code)
        self.assertEqual(bank.row(r=1), ((3,), (0,), (0,)))
        self.assertEqual(bank.mended(), ())

    def test_houses_and_desks_by_name(self):
        bank = bank_of()
        house = House(book=BOOK, bank=bank)
        self.assertEqual((house.bank, house.book), (bank, BOOK))
        desk = Desk(house=house)
        self.assertIs(desk.do(args=("ann",), deal="give", hand="tom"), True)
        self.assertIsNone(desk.undo(hand="tom"))
        self.assertIsNone(desk.redo(hand="tom"))
        self.assertEqual(desk.worths(), (7, 0, 0))
        self.assertEqual(desk.ask(question=("sum", (0,))), 7)
        self.assertEqual(desk.row(text="show ann"), "7")

    def test_files(self):
        for file in FILES:
            self.assertTrue(importlib.import_module("twicemany." + file))


if __name__ == "__main__":
    unittest.main()
