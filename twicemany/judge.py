"""Whether shapes stand, and stories that clash if they do not."""

from itertools import combinations

from twicemany.clashes import clash_behind
from twicemany.forms import rising_below
from twicemany.rows import made_lost, shelves_of
from twicemany.shapes import is_shape, made_shape


def safe(shape, lost):
    """Whether each left stripe behind this loss lets an end be told that all its stories have."""
    if not is_shape(shape) or not rising_below(lost, shelves_of(shape)):
        return False
    return clash_behind(shape, lost) is None


def stands(shape):
    """Whether each loss of at most e shelves is safe."""
    return is_shape(shape) and clash_of_losses(shape) is None


def clash_in(shape, lost):
    """Two or three stories that clash behind a loss, or None if it is safe."""
    made_shape(shape)
    made_lost(shape, lost)
    return clash_behind(shape, lost)


def first_clash(shape):
    """A loss of at most e shelves with stories that clash behind it, or None if the shape stands."""
    made_shape(shape)
    return clash_of_losses(shape)


def clash_of_losses(shape):
    """As first_clash, of what is known to be a shape."""
    # What clashes behind a loss clashes behind each greater one, so the greatest are enough.
    many = shelves_of(shape)
    for lost in losses_of(many, min(shape[4], many)):
        stories = clash_behind(shape, lost)
        if stories is not None:
            return lost, stories
    return None


def losses_of(many, size):
    """All losses of so many out of many shelves."""
    return list(combinations(range(many), size))
