"""The errors of the package, all under Refused."""


class Refused(ValueError):
    """What is refused; `what` tells more of it."""

    def __init__(self, what):
        self.what = what
        # A desk answers with it.
        self.name = self.__class__.__name__


class BadShape(Refused):
    """No shape."""


class BadRow(Refused):
    """No row; also a text of a book that is refused."""


class BadLeft(Refused):
    """No left stripe."""


class BadShelf(Refused):
    """No shelf, or no rising tuple of shelves."""


class BadStory(Refused):
    """No story."""


class BadNumber(Refused):
    """A number that is none here, or out of its limits."""


class BadCell(Refused):
    """No cell of the shape."""


class BadCode(Refused):
    """No code for the rack."""


class BadStop(Refused):
    """No place at which the code can stop."""


class BadChange(Refused):
    """No changes of a row."""


class NotSo(Refused):
    """A shape of which nothing is to be shown."""


class Blind(Refused):
    """Losses behind which two rows look alike."""


class Torn(Refused):
    """Stories that leave the same and have no end in common."""


class Spoilt(Refused):
    """A row that no story leaves so."""


class Unwhole(Refused):
    """A row that is not whole."""


class Unlike(Refused):
    """A row in which a raw shelf has another cell than it should."""


class NotLost(Refused):
    """A shelf that is not lost."""


class TooMany(Refused):
    """More than the limit."""


class TooWide(Refused):
    """More cells than one transaction may change."""


class BadSchema(Refused):
    """No schema."""


class BadWorths(Refused):
    """No worths of the schema."""


class BadBook(Refused):
    """No book."""


class BadDeal(Refused):
    """No deal."""


class TooLong(Refused):
    """A deal whose code is too long."""


class BadKeep(Refused):
    """No keep."""


class NoDeal(Refused):
    """A deal that the book does not have."""


class BadArgs(Refused):
    """No args of the deal."""


class Needed(Refused):
    """A need that is not so."""


class BadWorth(Refused):
    """A number that is none of its record's."""


class Broken(Refused):
    """A keep that would not hold."""


class BadPlace(Refused):
    """What no call of the book has written."""


class BadQuestion(Refused):
    """No question of the book."""


class BadHand(Refused):
    """No hand."""


class Changed(Refused):
    """A record that has another number than it should."""


class NothingToUndo(Refused):
    """A hand that has nothing to undo."""


class NothingToRedo(Refused):
    """A hand that has nothing to redo."""


class BadText(Refused):
    """A text that is wrong at a place."""


class NoName(Refused):
    """A name that stands for nothing there."""


class Twice(Refused):
    """A name that is taken."""


class TooDeep(Refused):
    """What lies too deep in itself."""
