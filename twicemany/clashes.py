"""Stories that clash behind a loss, found by votes ([16])."""

from twicemany.kinds import kept_sums, lost_cells, splits_of
from twicemany.rows import as_cell, shelves_of
from twicemany.stories import story_between
from twicemany.votes import apart_vector, voted

# Rows 0 and 1 are the ends of one story, 2 and 3 those of the other one.
TWO_APART = ((0, 2), (0, 3), (1, 2), (1, 3))
# Rows 0, 1 and 2, each two of which are the ends of a story.
THREE_APART = ((0, 1), (0, 2), (1, 2))


def clash_behind(shape, lost):
    """Two or three stories that clash behind a loss, or None."""
    found = clash_of_two(shape, lost)
    if found is None:
        return clash_of_three(shape, lost)
    return found


def clash_of_two(shape, lost):
    """Two stories that clash behind a loss, or None."""
    kinds_of_one = two_kinds(shape, lost)
    for at, (one, ends_of_one) in enumerate(kinds_of_one):
        for other, ends_of_other in kinds_of_one[at:]:
            votes = [(end, 2 + far) for end in ends_of_one for far in ends_of_other]
            touched = touched_by_two(one, other, lost_cells(shape, lost))
            rows = rows_apart(shape, lost, 4, touched, (votes, TWO_APART))
            if rows is not None:
                return told_by(shape, lost, rows, votes, ((0, 1), (2, 3)))
    return None


def two_kinds(shape, lost):
    """The kinds of k cells, each with the ends that its sums may have: 0 is the one ahead, 1 the one behind."""
    found = []
    for came, missing in splits_of(shape, lost, shape[3]):
        if shape[5] == 1:
            found.append(((came, missing), (0, 1) if came == () else (1,)))
        elif first_is_missing(came, missing, lost_cells(shape, lost)):
            found.append(((came, missing), (0, 1)))
    return found


def first_is_missing(came, missing, gone):
    """Whether the first kept cell of a kind did not come, if it has one."""
    # At once, a story can be told from its end to its beginning: then what came is what did not.
    kept = [x for x in missing if x not in gone]
    return came == () or (kept != [] and kept[0] < came[0])


def touched_by_two(one, other, gone):
    """The free steps of two kinds: which rows each touches, and in which cell. Kept cells lie as 0."""
    found = [((0,), x) for x in one[0]] + [((1,), x) for x in one[1]]
    found = found + [((2,), x) for x in other[0]] + [((3,), x) for x in other[1]]
    return found + [((2, 3), x) for x in gone]


def rows_apart(shape, lost, many, touched, rules):
    """Rows for which each kept sum votes, and which stay apart as the rules say; None if there are none."""
    kept = kept_sums(shape, lost)
    votes, apart = rules
    frame = (shape[0], len(kept), len(kept) + shape[2], votes, apart)
    space = [step_vector(shape, kept, many, step) for step in touched]
    found = voted(space, 0, frame)
    if found is None:
        return None
    vector = apart_vector(found, frame)
    return [numbers_of(vector, row, frame) for row in range(many)]


def step_vector(shape, kept, many, step):
    """The vector of a step of 1 in one cell of some rows."""
    touched, x = step
    unit = [shape[6][j][x] for j in kept] + [1 if y == x else 0 for y in range(shape[2])]
    vector = []
    for row in range(many):
        vector = vector + (unit if row in touched else [0] * len(unit))
    return vector


def numbers_of(vector, row, frame):
    """What a vector has for a row: the kept sums and the cells."""
    long = frame[2]
    return vector[row * long:(row + 1) * long]


def told_by(shape, lost, rows, votes, pairs):
    """The stories between pairs of these rows that leave what the votes tell."""
    kept = kept_sums(shape, lost)
    left = []
    for shelf in range(shelves_of(shape)):
        if shelf in lost:
            left.append(None)
        elif shelf in kept:
            left.append(as_cell(shape, agreed(rows, kept.index(shelf), votes)))
        else:
            left.append(as_cell(shape, 0))
    full = [tuple([as_cell(shape, number) for number in row[len(kept):]]) for row in rows]
    return tuple([story_between(shape, full[one], full[other], tuple(left)) for one, other in pairs])


def agreed(rows, at, votes):
    """What two rows that a sum may vote for have alike there."""
    for one, other in votes:
        if rows[one][at] == rows[other][at]:
            return rows[one][at]
    return None


def clash_of_three(shape, lost):
    """Three stories, each two of three rows, that clash behind a loss, or None."""
    gone = lost_cells(shape, lost)
    for places in three_kinds(shape[2], shape[3], gone):
        for votes in three_votes(shape, places, gone):
            rows = rows_apart(shape, lost, 3, touched_by_three(places), (votes, THREE_APART))
            if rows is not None:
                return told_by(shape, lost, rows, votes, THREE_APART)
    return None


def three_kinds(n, k, gone):
    """For each cell a tuple of the rows that have a worth of their own there, in all ways that k lets."""
    found = [()]
    for x in range(n):
        found = [places + (own,) for places in found for own in owns_of(places, x in gone)]
        found = [places for places in found if widest(places) <= k]
    return found


def owns_of(places, is_gone):
    """The rows that may have a worth of their own in the next cell."""
    # The three rows can be named in the order in which they are first unlike the others.
    named = [own for own in ((0,), (1,), (2,)) if own in places]
    fresh = [own for own in ((0,), (1,), (2,)) if own not in places]
    return [()] + named + fresh[:1] + ([(1, 2)] if is_gone else [])


def widest(places):
    """In how many cells two of the three rows are unlike, at most."""
    return max([sum([1 for own in places if one in own or other in own]) for one, other in THREE_APART])


def touched_by_three(places):
    """The free steps of three rows: which row each touches, and in which cell. Kept cells lie as 0."""
    return [((row,), x) for x, own in enumerate(places) for row in own]


def three_votes(shape, places, gone):
    """The sets of votes that the sums may have."""
    if shape[5] == 0:
        return [THREE_APART]
    # Waited: of each two rows, one is what lies in all kept cells or in all kept sums.
    owners = [own for x, own in enumerate(places) if x not in gone]
    off = [row for row in range(3) if (row,) in owners]
    if len(off) < 2:
        return [THREE_APART]
    if len(off) == 3:
        return [[pair] for pair in THREE_APART]
    return [[pair for pair in THREE_APART if row in pair] for row in off]
