import unittest

from twicemany import errors

NAMES = (
    "BadShape", "BadRow", "BadLeft", "BadShelf", "BadStory", "BadNumber", "BadCell", "BadCode", "BadStop",
    "BadChange", "NotSo", "Blind", "Torn", "Spoilt", "Unwhole", "Unlike", "NotLost", "TooMany", "TooWide",
    "BadSchema", "BadWorths", "BadBook", "BadDeal", "TooLong", "BadKeep", "NoDeal", "BadArgs", "Needed",
    "BadWorth", "Broken", "BadPlace", "BadQuestion", "BadHand", "Changed", "NothingToUndo", "NothingToRedo",
    "BadText", "NoName", "Twice", "TooDeep",
)


class Errors(unittest.TestCase):
    def test_refused_stands_under_value_error(self):
        self.assertEqual(errors.Refused.__bases__, (ValueError,))

    def test_each_other_one_stands_under_refused_alone(self):
        for name in NAMES:
            made = getattr(errors, name)
            self.assertEqual(made.__bases__, (errors.Refused,), name)
            self.assertEqual(made.__module__, "twicemany.errors")

    def test_there_are_no_more(self):
        told = [name for name in vars(errors) if name[0].isupper()]
        self.assertEqual(sorted(told), sorted(NAMES + ("Refused",)))

    def test_each_keeps_its_one_argument(self):
        for name in NAMES + ("Refused",):
            made = getattr(errors, name)
            for what in (3, -1, "short", (1, 2), (), None, ((1, (2,)),)):
                self.assertEqual(made(what).what, what)
                self.assertEqual(made(what=what).what, what)
            with self.assertRaises(TypeError):
                made()
            with self.assertRaises(TypeError):
                made(1, 2)

    def test_each_is_caught_as_refused_and_as_value_error(self):
        for name in NAMES:
            with self.assertRaises(errors.Refused):
                raise getattr(errors, name)(1)
            with self.assertRaises(ValueError):
                raise getattr(errors, name)((1, 2))


if __name__ == "__main__":
    unittest.main()
