"""Questions of form that several files ask."""


def number_within(thing, low, high):
    """Whether thing is a number from low to high; True and False are no numbers."""
    return isinstance(thing, int) and not isinstance(thing, bool) and low <= thing <= high


def tuple_of(thing, many):
    """Whether thing is a tuple of so many parts."""
    return isinstance(thing, tuple) and len(thing) == many


def rising_below(thing, top):
    """Whether thing is a rising tuple of numbers from 0 to top - 1."""
    if not isinstance(thing, tuple):
        return False
    low = 0
    for number in thing:
        if not number_within(number, low, top - 1):
            return False
        low = number + 1
    return True
