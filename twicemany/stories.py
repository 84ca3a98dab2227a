"""Stories: transactions of which some writes are there."""

from twicemany.errors import BadStory
from twicemany.forms import number_within, rising_below, tuple_of
from twicemany.rows import cell_fits, made_lost, row_fault, row_sums, shelves_of
from twicemany.shapes import is_shape, made_shape


def made_story(shape, thing):
    """Thing as a story of the shape."""
    made_shape(shape)
    fault = story_fault(shape, thing)
    if fault is not None:
        raise BadStory(fault)
    return thing


def is_story(shape, thing):
    """Whether shape is a shape and thing a story of it."""
    return is_shape(shape) and story_fault(shape, thing) is None


def story_fault(shape, thing):
    """What BadStory tells of thing, or None of a story."""
    if not tuple_of(thing, 3):
        return -1
    row, changes, came = thing
    if row_fault(shape, row) is not None:
        return 0
    if not changes_fit(shape, row, changes):
        return 1
    if not came_fits(shape, changes, came):
        return 2
    return None


def changes_fit(shape, row, changes):
    """Whether changes gives up to k cells of the row, rising, other worths."""
    if not isinstance(changes, tuple) or len(changes) > shape[3]:
        return False
    low = 0
    for pair in changes:
        if not tuple_of(pair, 2):
            return False
        x, cell = pair
        if not number_within(x, low, shape[2] - 1) or not cell_fits(shape, cell) or cell == row[x]:
            return False
        low = x + 1
    return True


def came_fits(shape, changes, came):
    """Whether writes can have come to just these shelves."""
    if not rising_below(came, shelves_of(shape)):
        return False
    many = len(shape[6])
    changed = [many + x for x, _ in changes]
    cells = [shelf for shelf in came if shelf >= many]
    if not all([shelf in changed for shelf in cells]):
        return False
    return shape[5] == 0 or cells == [] or len(came) - len(cells) == many


def ends(story):
    """The row ahead of the transaction, and the row behind it."""
    row, changes, _ = story
    behind = list(row)
    for x, cell in changes:
        behind[x] = cell
    return row, tuple(behind)


def left_by(shape, story, lost):
    """What a story leaves with a loss."""
    made_story(shape, story)
    made_lost(shape, lost)
    return what_is_left(shape, story, lost)


def what_is_left(shape, story, lost):
    """What is left by what is known to be a story, with what is known to be a loss."""
    ahead, behind = ends(story)
    left = list(row_sums(shape, ahead) + ahead)
    written = row_sums(shape, behind) + behind
    for shelf in story[2]:
        left[shelf] = written[shelf]
    for shelf in lost:
        left[shelf] = None
    return tuple(left)


def clash_right(shape, lost, stories):
    """Whether two or three stories leave the same with a small loss, and have no end in common."""
    if not is_shape(shape) or not rising_below(lost, shelves_of(shape)) or len(lost) > shape[4]:
        return False
    if not tuple_of(stories, 2) and not tuple_of(stories, 3):
        return False
    if not all([story_fault(shape, story) is None for story in stories]):
        return False
    first = what_is_left(shape, stories[0], lost)
    if not all([what_is_left(shape, story, lost) == first for story in stories]):
        return False
    return common_ends(stories) == []


def common_ends(stories):
    """The rows that are ends of all these stories."""
    pairs = [ends(story) for story in stories]
    return [row for row in pairs[0] if all([row in pair for pair in pairs])]


def story_between(shape, one, other, left):
    """A story whose ends are these two rows, in either order, and that leaves this; None if there is none."""
    story = story_towards(shape, one, other, left)
    if story is None:
        return story_towards(shape, other, one, left)
    return story


def story_towards(shape, ahead, behind, left):
    """A story from one row to another one that leaves this, or None if there is none."""
    many = len(shape[6])
    changes = tuple([(x, cell) for x, cell in enumerate(behind) if cell != ahead[x]])
    full = row_sums(shape, ahead) + ahead
    came = [shelf for shelf, cell in enumerate(left) if cell is not None and cell != full[shelf]]
    if shape[5] == 1 and came != [] and came[-1] >= many:
        # Waited: where a cell came, all sums did, the lost ones too.
        came = list(range(many)) + [shelf for shelf in came if shelf >= many]
    story = (ahead, changes, tuple(came))
    lost = tuple([shelf for shelf, cell in enumerate(left) if cell is None])
    if story_fault(shape, story) is None and what_is_left(shape, story, lost) == left:
        return story
    return None
