"""All stories that leave a stripe, kind by kind ([24]).

A vector tells the two ends of a story, each by a stripe of one number for each
kept sum and each cell, the end ahead first. A space is a pair of lists: the
points, a vector for each place of a cell, and the steps, vectors that are free
of one another and may be added to each of the points. A frame is a tuple of
what stays the same for one left stripe: p, how many sums are kept, how long a
stripe of a vector is, and the cells that the kept sums have.
"""

from twicemany.clashes import step_vector, two_kinds
from twicemany.errors import Torn
from twicemany.fields import first_place, inverse
from twicemany.kinds import kept_sums, lost_cells
from twicemany.rows import as_cell, lost_of, row_sums
from twicemany.stories import ends, story_towards
from twicemany.votes import mixed, without


def common_rows(shape, left):
    """The rows that are ends of all stories that leave this; () if there is no story, Torn if no such row."""
    lost = lost_of(left)
    kept = kept_sums(shape, lost)
    frame = (shape[0], len(kept), len(kept) + shape[2], [left[shelf] for shelf in kept])
    points = first_points(shape, left, kept)
    common, spaces = None, []
    for kind, lies in two_kinds(shape, lost):
        steps = [step_vector(shape, kept, 2, step) for step in free_steps(kind, lost_cells(shape, lost))]
        for space in narrowed((points, steps), 0, lies, frame):
            spaces.append(space)
            fixed = fixed_ends(space, frame)
            common = fixed if common is None else [row for row in common if row in fixed]
        if common == []:
            raise Torn(torn_stories(shape, left, spaces, frame))
    return () if common is None else tuple(sorted(common))


def first_points(shape, left, kept):
    """The points at which both ends have the kept cells as they lie, and 0 in the lost ones."""
    many = len(shape[6])
    row = tuple([as_cell(shape, 0) if cell is None else cell for cell in left[many:]])
    full = row_sums(shape, row) + row
    told = [full[shelf] for shelf in kept] + list(full[many:])
    return [[cell[place] for cell in told] * 2 for place in range(shape[1])]


def free_steps(kind, gone):
    """The steps that a kind is free to take: which ends each touches (0 ahead, 1 behind), and in which cell."""
    came, missing = kind
    # What came lies as the end behind has it, so the one ahead may have any worth there.
    found = [((0,), x) for x in came] + [((1,), x) for x in missing]
    return found + [((0,), x) if x in missing else ((0, 1), x) for x in gone]


def narrowed(space, at, lies, frame):
    """The parts of a space in which each kept sum from `at` on lies as one of these ends has it."""
    if at == frame[1]:
        return [space]
    found = []
    choices = lies[:1] if alike_at(space, at, frame) else lies
    for end in choices:
        part = part_with(space, end * frame[2] + at, frame[3][at], frame[0])
        if part is not None:
            found = found + narrowed(part, at + 1, lies, frame)
    return found


def alike_at(space, at, frame):
    """Whether a sum is the same for both ends in the whole space, so that it does not matter whether it came."""
    points, steps = space
    return all([vector[at] == vector[frame[2] + at] for vector in points + steps])


def part_with(space, at, cell, p):
    """The part of a space whose points have the numbers of a cell at a place, or None."""
    points, steps = space
    gaps = [(point[at] - number) % p for point, number in zip(points, cell)]
    slopes = [step[at] for step in steps]
    if not any(slopes):
        return None if any(gaps) else space
    chosen = first_place(slopes)
    back = -inverse(slopes[chosen], p)
    points = [mixed(point, 1, steps[chosen], back * gap, p) for point, gap in zip(points, gaps)]
    return points, without(steps, slopes, p)


def fixed_ends(space, frame):
    """The ends that are one row in the whole space."""
    points, steps = space
    return [row_at(points, end, frame) for end in (0, 1) if not any([touches(step, end, frame) for step in steps])]


def touches(step, end, frame):
    """Whether a step changes this end."""
    long = frame[2]
    return any(step[end * long:(end + 1) * long])


def row_at(points, end, frame):
    """The row that points have as this end."""
    long = frame[2]
    places = range(end * long + frame[1], (end + 1) * long)
    return tuple([tuple([point[place] for point in points]) for place in places])


def torn_stories(shape, left, spaces, frame):
    """Two or three stories of these spaces, no row of which is an end of all."""
    first = story_at(shape, left, spaces[0][0], frame)
    ahead, behind = ends(first)
    second = story_at(shape, left, points_without(ahead, spaces, frame), frame)
    if behind not in ends(second):
        return first, second
    return first, second, story_at(shape, left, points_without(behind, spaces, frame), frame)


def story_at(shape, left, points, frame):
    """The story that points tell."""
    return story_towards(shape, row_at(points, 0, frame), row_at(points, 1, frame), left)


def points_without(row, spaces, frame):
    """Points of the first space in which this row is not always an end, so that it is none of theirs."""
    points, steps = [space for space in spaces if row not in fixed_ends(space, frame)][0]
    for end in (0, 1):
        if row_at(points, end, frame) == row:
            ways = [step for step in steps if touches(step, end, frame)]
            points = moved_off(row, points, ways[0], frame)
    return points


def moved_off(row, points, step, frame):
    """Points further on in the direction of a step that takes an end off a row; the other one is kept off it, too."""
    # An end that is off the row comes upon it at one place of the line at most; one that stays on it is moved next.
    found = points
    for times in (1, 2):
        found = [mixed(points[0], 1, step, times, frame[0])] + points[1:]
        if row not in (row_at(found, 0, frame), row_at(found, 1, frame)):
            return found
    return found
