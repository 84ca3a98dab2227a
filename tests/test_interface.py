"""Names, arguments and files of what has landed, as the document's interface lists them."""

import importlib
import inspect
import unittest

from twicemany.banks import Bank
from twicemany.racks import Rack

INTERFACE = {
    "shapes": {"made_shape": ("thing",), "is_shape": ("thing",)},
    "rows": {
        "made_row": ("shape", "thing"), "sums": ("shape", "row"), "stripe": ("shape", "row"),
        "made_left": ("shape", "thing"), "lost_of": ("left",),
    },
    "stories": {
        "made_story": ("shape", "thing"), "is_story": ("shape", "thing"), "ends": ("story",),
        "left_by": ("shape", "story", "lost"), "clash_right": ("shape", "lost", "stories"),
    },
    "fields": {
        "is_prime": ("p",), "inverse": ("a", "p"), "reduced": ("matrix", "many", "p"),
        "kernel": ("matrix", "many", "p"), "solved": ("matrix", "many", "right", "p"),
    },
    "kinds": {"kinds": ("shape", "lost")},
    "judge": {
        "safe": ("shape", "lost"), "stands": ("shape",), "clash_in": ("shape", "lost"), "first_clash": ("shape",),
    },
    "fewer": {"fewer": ("shape",)},
    "finder": {
        "table_at": ("p", "n", "c", "number"), "finder": ("p", "n", "k", "e", "manner", "c", "first", "many"),
    },
    "readings": {"told": ("shape", "left"), "spread": ("shape", "left"), "is_whole": ("shape", "left")},
    "codes": {"made_code": ("rack", "thing"), "do": ("rack", "code"), "stop": ("rack", "code", "many", "came")},
    "mends": {"whole_row": ("rack", "row"), "mend": ("rack", "row"), "mend_all": ("rack",)},
    "banks": {"change": ("rack", "row", "changes")},
    "schemas": {"made_schema": ("bank", "thing")},
    "houses": {
        "made_worths": ("schema", "worths"), "worths_of": ("bank", "schema"), "do_steps": ("bank", "steps"),
        "lay": ("bank", "schema", "worths"),
    },
}
CLASSES = {
    "racks": {"Rack": {
        "__init__": ("shape", "many"), "states": (), "cell": ("row", "shelf"), "left": ("row",),
        "put": ("row", "shelf", "cell"), "lose": ("shelf",), "replace": ("shelf",), "trust": (),
    }},
    "banks": {"Bank": {
        "__init__": ("rack",), "row": ("r",), "changed": ("r", "changes"), "mended": (), "do": ("code",),
        "stop": ("code", "many", "came"),
    }},
}
# Files of which the interface says only that they are there.
FILES = ("errors", "deals")

SHAPE = (7, 1, 2, 2, 0, 0, ((6, 2), (5, 6), (3, 4)))
ROW = ((1,), (2,))
STORY = (ROW, (), ())
LEFT = ((0,), (3,), (4,), (3,), (2,))
CODE = (((0, 0, (1,)), (0, 4, (2,))),)
LOSSY = (257, 1, 3, 2, 1, 0, ((1, 2, 3), (4, 5, 6), (7, 8, 10)))
SCHEMA = ((("ann", 100), ("bob", 100)), (("shop", 100),))


def rack_of():
    """A new rack of two rows, in one of which a change was stopped."""
    rack = Rack(SHAPE, 2)
    rack.put(1, 0, (1,))
    return rack


def bank_of():
    return Bank(Rack(LOSSY, 3))


BY_NAME = (
    ("shapes", "made_shape", {"thing": SHAPE}), ("shapes", "is_shape", {"thing": SHAPE}),
    ("rows", "made_row", {"thing": ROW, "shape": SHAPE}), ("rows", "sums", {"row": ROW, "shape": SHAPE}),
    ("rows", "stripe", {"row": ROW, "shape": SHAPE}), ("rows", "lost_of", {"left": (None,)}),
    ("rows", "made_left", {"thing": (None,) * 5, "shape": SHAPE}),
    ("stories", "made_story", {"thing": STORY, "shape": SHAPE}),
    ("stories", "is_story", {"thing": STORY, "shape": SHAPE}), ("stories", "ends", {"story": STORY}),
    ("stories", "left_by", {"lost": (), "story": STORY, "shape": SHAPE}),
    ("stories", "clash_right", {"stories": (STORY, STORY), "lost": (), "shape": SHAPE}),
    ("fields", "is_prime", {"p": 7}), ("fields", "inverse", {"p": 7, "a": 3}),
    ("fields", "reduced", {"p": 7, "many": 1, "matrix": ((2,),)}),
    ("fields", "kernel", {"p": 7, "many": 1, "matrix": ((2,),)}),
    ("fields", "solved", {"p": 7, "right": (3,), "many": 1, "matrix": ((2,),)}),
    ("kinds", "kinds", {"lost": (), "shape": SHAPE}), ("judge", "safe", {"lost": (), "shape": SHAPE}),
    ("judge", "stands", {"shape": SHAPE}), ("judge", "clash_in", {"lost": (0, 1), "shape": SHAPE}),
    ("judge", "first_clash", {"shape": SHAPE}), ("fewer", "fewer", {"shape": (7, 1, 3, 2, 0, 0, ())}),
    ("finder", "table_at", {"number": 3, "c": 2, "n": 4, "p": 7}),
    ("finder", "finder", {"many": 9, "first": 2, "c": 3, "manner": 1, "e": 0, "k": 2, "n": 3, "p": 31}),
    ("readings", "told", {"left": LEFT, "shape": SHAPE}), ("readings", "spread", {"left": LEFT, "shape": SHAPE}),
    ("readings", "is_whole", {"left": LEFT, "shape": SHAPE}),
    ("codes", "made_code", {"thing": CODE, "rack": rack_of()}), ("codes", "do", {"code": CODE, "rack": rack_of()}),
    ("codes", "stop", {"came": (1,), "many": 0, "code": CODE, "rack": rack_of()}),
    ("mends", "whole_row", {"row": 1, "rack": rack_of()}), ("mends", "mend", {"row": 1, "rack": rack_of()}),
    ("mends", "mend_all", {"rack": rack_of()}),
    ("banks", "change", {"changes": ((0, (1,)),), "row": 0, "rack": rack_of()}),
    ("schemas", "made_schema", {"thing": SCHEMA, "bank": bank_of()}),
    ("houses", "made_worths", {"worths": (5, 0, 0), "schema": SCHEMA}),
    ("houses", "worths_of", {"schema": SCHEMA, "bank": bank_of()}),
    ("houses", "do_steps", {"steps": ((1, ((1, 5),)),), "bank": bank_of()}),
    ("houses", "lay", {"worths": (5, 0, 0), "schema": SCHEMA, "bank": bank_of()}),
)


class Interface(unittest.TestCase):
    def test_names_arguments_and_files(self):
        for file, functions in INTERFACE.items():
            module = importlib.import_module("twicemany." + file)
            for name, arguments in functions.items():
                made = getattr(module, name)
                self.assertEqual(tuple(inspect.signature(made).parameters), arguments, name)
                self.assertEqual(made.__module__, "twicemany." + file)

    def test_arguments_by_name_and_by_position(self):
        told = []
        for file, name, arguments in BY_NAME:
            made = getattr(importlib.import_module("twicemany." + file), name)
            ordered = [arguments[word] for word in INTERFACE[file][name]]
            self.assertEqual(made(**arguments), made(*ordered), name)
            told.append((file, name))
        self.assertEqual(sorted(told), sorted((f, name) for f, names in INTERFACE.items() for name in names))

    def test_classes_and_their_own_methods(self):
        for file, classes in CLASSES.items():
            module = importlib.import_module("twicemany." + file)
            for name, methods in classes.items():
                made = getattr(module, name)
                self.assertEqual(made.__module__, "twicemany." + file)
                for method, arguments in methods.items():
                    self.assertIn(method, vars(made), name)
                    parameters = tuple(inspect.signature(vars(made)[method]).parameters)
                    self.assertEqual(parameters[1:], arguments, method)

    def test_methods_by_name(self):
        rack = Rack(many=2, shape=LOSSY)
        rack.put(cell=(0,), shelf=0, row=1)
        self.assertEqual(rack.cell(shelf=0, row=1), (0,))
        self.assertEqual(rack.left(row=1), ((0,),) * 6)
        rack.lose(shelf=0)
        rack.replace(shelf=0)
        rack.trust()
        self.assertEqual(rack.states(), ("kept",) * 6)
        bank = Bank(rack=rack)
        code = bank.changed(changes=((0, (3,)),), r=1)
        bank.stop(came=(0,), many=0, code=code)
        bank.do(code=code)
        self.assertEqual(bank.row(r=1), ((3,), (0,), (0,)))
        self.assertEqual(bank.mended(), ())

    def test_files(self):
        for file in FILES:
            self.assertTrue(importlib.import_module("twicemany." + file))


if __name__ == "__main__":
    unittest.main()
