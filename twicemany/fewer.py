"""Stories that clash where there are too few sums, whatever the table ([19], [20])."""

from itertools import combinations

from twicemany.errors import NotSo
from twicemany.fields import first_place, kernel
from twicemany.rows import as_cell, row_sums
from twicemany.shapes import made_shape
from twicemany.stories import story_between


def fewer(shape):
    """A loss of at most e shelves, and two stories that clash behind it."""
    made_shape(shape)
    p, _, n, k, e, manner, table = shape
    if k < 2 or n < 2 * k - 1 or len(table) >= enough_sums(k, e, manner):
        raise NotSo(0)
    lost = tuple(range(min(e, len(table))))
    kept = table[len(lost):]
    change = unseen_change(kept, n, 2 * k - 1, p)
    if change is None:
        rows = rows_if_all_is_seen(kept, n, k, p)
    else:
        rows = rows_by_unseen(change, k, p)
    return lost, told_stories(shape, lost, rows)


def enough_sums(k, e, manner):
    """How many sums a shape needs to stand."""
    return e + 2 * k if manner == 0 else 2 * k - 1


def unseen_change(kept, n, size, p):
    """A change of so many cells, not nought, that the kept sums do not see; None if there is none."""
    for cells in combinations(range(n), size):
        found = kernel(columns_of(kept, cells), size, p)
        if found != ():
            return placed(cells, found[0], n)
    return None


def columns_of(rows, cells):
    """These columns of some rows of a table."""
    return [[row[x] for x in cells] for row in rows]


def placed(cells, numbers, n):
    """The row of n numbers with these numbers in these cells, and 0 elsewhere."""
    row = [0] * n
    for x, number in zip(cells, numbers):
        row[x] = number
    return row


def rows_by_unseen(change, k, p):
    """The ends of two stories that clash by a change that no kept sum sees."""
    n = len(change)
    cells = [x for x in range(n) if change[x] != 0]
    # The part that is still to change; what is left of the change has k cells at most.
    still = cells[:max(1, len(cells) - k)]
    behind = [0 if x in still else -change[x] % p for x in range(n)]
    later = [change[x] if x in still else 0 for x in range(n)]
    further = [x for x in range(n) if x not in still][0]
    step = 2 if behind[further] == 1 else 1
    return [0] * n, behind, placed([further], [step], n), later


def rows_if_all_is_seen(kept, n, k, p):
    """The ends of two stories that clash, where 2 * k - 1 sums are kept and see each change of as many cells."""
    # Of the first k + 1 cells: the first k sums do not see delta, and the others not epsilon.
    cells = list(range(k + 1))
    delta = kernel(columns_of(kept[:k], cells), k + 1, p)[0]
    epsilon, came = unseen_by_others(columns_of(kept[k:], cells), delta, p)
    behind, ahead, later = [], [], []
    for x in cells:
        gap = (epsilon[x] - delta[x]) % p
        behind.append(delta[x] if x in came else epsilon[x])
        ahead.append(-gap % p if x in came else 0)
        later.append(0 if x in came else gap)
    rows = [[0] * (k + 1), behind, ahead, later]
    return [placed(cells, row, n) for row in rows]


def unseen_by_others(others, delta, p):
    """An epsilon that these sums do not see, and the cells X of [20]."""
    nought = [x for x in range(len(delta)) if delta[x] == 0]
    if nought != []:
        epsilon = unseen_beside(others, delta, nought[0], p)
        return epsilon, unlike_places(epsilon, delta)[:1]
    return unseen_by_scale(others, delta, p)


def unseen_beside(others, delta, common, p):
    """An epsilon that is 0 as delta is in a common cell, and unlike it wherever it is not 0."""
    found = zero_at(others, common, len(delta), p)[0]
    # Each other cell forbids one scale at most, and there are k of them.
    for scale in range(1, 5):
        epsilon = [scale * number % p for number in found]
        if all([number == 0 or number != other for number, other in zip(epsilon, delta)]):
            return epsilon
    return None


def unseen_by_scale(others, delta, p):
    """An epsilon that is 0 in one cell and as delta, which is never 0, in another one; and X."""
    for z in range(len(delta)):
        for found in zero_at(others, z, len(delta), p):
            # The first number of a reduced row is 1, so this scale makes both alike there.
            scale = delta[first_place(found)]
            epsilon = [scale * number % p for number in found]
            came = [x for x in unlike_places(epsilon, delta) if x != z]
            if came != []:
                return epsilon, came
    return None


def zero_at(others, x, many, p):
    """The rows that span what these sums do not see and is 0 in cell x."""
    unit = [1 if y == x else 0 for y in range(many)]
    return kernel(others + [unit], many, p)


def unlike_places(numbers, others):
    """The places at which two tuples have unlike numbers."""
    return [x for x, (number, other) in enumerate(zip(numbers, others)) if number != other]


def told_stories(shape, lost, rows):
    """The two stories with these ends: all kept sums lie as the second row has them, all cells as 0."""
    first, second, third, fourth = [tuple([as_cell(shape, number) for number in row]) for row in rows]
    left = [None if shelf in lost else cell for shelf, cell in enumerate(row_sums(shape, second))]
    left = tuple(left) + first
    return story_between(shape, first, second, left), story_between(shape, third, fourth, left)
