"""Kinds of stories behind a loss."""

from itertools import combinations

from twicemany.rows import made_lost
from twicemany.shapes import made_shape


def kinds(shape, lost):
    """All kinds of stories behind a loss: fewer cells first, then as tuples are compared."""
    made_shape(shape)
    made_lost(shape, lost)
    kept = kept_sums(shape, lost)
    every = parts_of(kept)
    found = []
    for x_cells, z_cells in splits(shape, lost):
        waits = shape[5] == 1 and x_cells != ()
        for came in [tuple(kept)] if waits else every:
            found.append((x_cells, z_cells, came))
    return tuple(sorted(found, key=lambda kind: (len(kind[0]) + len(kind[1]), kind)))


def kept_sums(shape, lost):
    """The sums that are kept behind a loss."""
    return [shelf for shelf in range(len(shape[6])) if shelf not in lost]


def lost_cells(shape, lost):
    """The cells that a loss takes."""
    many = len(shape[6])
    return [shelf - many for shelf in lost if shelf >= many]


def parts_of(numbers):
    """All tuples of some of these rising numbers, rising."""
    parts = [()]
    for number in numbers:
        parts = parts + [part + (number,) for part in parts]
    return parts


def splits(shape, lost):
    """All pairs of cells that came, which are kept, and cells that did not come, k at most in all."""
    found = []
    for size in range(shape[3] + 1):
        found = found + splits_of(shape, lost, size)
    return found


def splits_of(shape, lost, size):
    """Those pairs that have so many cells in all."""
    gone = lost_cells(shape, lost)
    found = []
    for cells in combinations(range(shape[2]), size):
        for came in parts_of([x for x in cells if x not in gone]):
            found.append((came, tuple([x for x in cells if x not in came])))
    return found
