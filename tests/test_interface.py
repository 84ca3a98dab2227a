"""Names, arguments and files of what has landed, as the document's interface lists them."""

import importlib
import inspect
import unittest

INTERFACE = {
    "shapes": {"made_shape": ("thing",), "is_shape": ("thing",)},
    "rows": {
        "made_row": ("shape", "thing"), "sums": ("shape", "row"), "stripe": ("shape", "row"),
        "made_left": ("shape", "thing"), "lost_of": ("left",),
    },
    "stories": {
        "made_story": ("shape", "thing"), "is_story": ("shape", "thing"), "ends": ("story",),
        "left_by": ("shape", "story", "lost"), "clash_right": ("shape", "lost", "stories"),
    },
    "fields": {
        "is_prime": ("p",), "inverse": ("a", "p"), "reduced": ("matrix", "many", "p"),
        "kernel": ("matrix", "many", "p"), "solved": ("matrix", "many", "right", "p"),
    },
    "kinds": {"kinds": ("shape", "lost")},
    "judge": {
        "safe": ("shape", "lost"), "stands": ("shape",), "clash_in": ("shape", "lost"), "first_clash": ("shape",),
    },
    "fewer": {"fewer": ("shape",)},
}

SHAPE = (7, 1, 2, 2, 0, 0, ((6, 2), (5, 6), (3, 4)))
ROW = ((1,), (2,))
STORY = (ROW, (), ())

BY_NAME = (
    ("shapes", "made_shape", {"thing": SHAPE}), ("shapes", "is_shape", {"thing": SHAPE}),
    ("rows", "made_row", {"thing": ROW, "shape": SHAPE}), ("rows", "sums", {"row": ROW, "shape": SHAPE}),
    ("rows", "stripe", {"row": ROW, "shape": SHAPE}), ("rows", "lost_of", {"left": (None,)}),
    ("rows", "made_left", {"thing": (None,) * 5, "shape": SHAPE}),
    ("stories", "made_story", {"thing": STORY, "shape": SHAPE}),
    ("stories", "is_story", {"thing": STORY, "shape": SHAPE}), ("stories", "ends", {"story": STORY}),
    ("stories", "left_by", {"lost": (), "story": STORY, "shape": SHAPE}),
    ("stories", "clash_right", {"stories": (STORY, STORY), "lost": (), "shape": SHAPE}),
    ("fields", "is_prime", {"p": 7}), ("fields", "inverse", {"p": 7, "a": 3}),
    ("fields", "reduced", {"p": 7, "many": 1, "matrix": ((2,),)}),
    ("fields", "kernel", {"p": 7, "many": 1, "matrix": ((2,),)}),
    ("fields", "solved", {"p": 7, "right": (3,), "many": 1, "matrix": ((2,),)}),
    ("kinds", "kinds", {"lost": (), "shape": SHAPE}), ("judge", "safe", {"lost": (), "shape": SHAPE}),
    ("judge", "stands", {"shape": SHAPE}), ("judge", "clash_in", {"lost": (0, 1), "shape": SHAPE}),
    ("judge", "first_clash", {"shape": SHAPE}), ("fewer", "fewer", {"shape": (7, 1, 3, 2, 0, 0, ())}),
)


class Interface(unittest.TestCase):
    def test_names_arguments_and_files(self):
        for file, functions in INTERFACE.items():
            module = importlib.import_module("twicemany." + file)
            for name, arguments in functions.items():
                made = getattr(module, name)
                self.assertEqual(tuple(inspect.signature(made).parameters), arguments, name)
                self.assertEqual(made.__module__, "twicemany." + file)

    def test_arguments_by_name_and_by_position(self):
        told = []
        for file, name, arguments in BY_NAME:
            made = getattr(importlib.import_module("twicemany." + file), name)
            ordered = [arguments[word] for word in INTERFACE[file][name]]
            self.assertEqual(made(**arguments), made(*ordered), name)
            told.append((file, name))
        self.assertEqual(sorted(told), sorted((f, name) for f, names in INTERFACE.items() for name in names))


if __name__ == "__main__":
    unittest.main()
