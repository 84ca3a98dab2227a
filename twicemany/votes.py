"""Votes of shelves for rows that are alike there ([16]).

A vector tells a few rows at once, each by a stripe of one number for each kept
sum and each cell, one row behind another. A space is a list of vectors that are
free of one another. A frame is a tuple of what stays the same during a search:
p, how many sums are kept, how long a stripe is, the votes, which are pairs of
rows, and the pairs of rows that have to stay apart.
"""


def voted(space, at, frame):
    """What is left of a space when each kept sum from `at` on has voted and no rows became one; None if nothing is."""
    if not all_apart(space, frame):
        return None
    if at == frame[1]:
        return space
    for gaps in ballots(space, at, frame):
        found = voted(without(space, gaps, frame[0]), at + 1, frame)
        if found is not None:
            return found
    return None


def all_apart(space, frame):
    """Whether none of the pairs of rows that have to stay apart is one in the whole space."""
    long = frame[2]
    for one, other in frame[4]:
        if not any([differ(vector, one, other, long) for vector in space]):
            return False
    return True


def differ(vector, one, other, long):
    """Whether two rows of a vector are unlike."""
    return vector[one * long:(one + 1) * long] != vector[other * long:(other + 1) * long]


def ballots(space, at, frame):
    """For each vote that a sum may take, how far the two rows are apart there in each vector of the space."""
    p, long = frame[0], frame[2]
    found = []
    for one, other in frame[3]:
        here, there = one * long + at, other * long + at
        gaps = [(vector[here] - vector[there]) % p for vector in space]
        if not any(gaps):
            # This vote asks nothing, so each other one leaves a part of what it leaves.
            return [gaps]
        if gaps not in found:
            found.append(gaps)
    return found


def without(space, gaps, p):
    """The part of a space in which a gap, told of each of its vectors, is 0."""
    at = 0
    while at < len(gaps) and gaps[at] == 0:
        at += 1
    kept = space[:at]
    for vector, gap in zip(space[at + 1:], gaps[at + 1:]):
        if gap == 0:
            kept.append(vector)
        else:
            kept.append(mixed(vector, gaps[at], space[at], -gap, p))
    return kept


def mixed(vector, times, other, more, p):
    """So many times one vector and so many times another one."""
    return [(times * a + more * b) % p for a, b in zip(vector, other)]


def apart_vector(space, frame):
    """A vector of a space in which all pairs of rows that have to stay apart are unlike."""
    long, apart = frame[2], frame[4]
    found = [0] * len(space[0])
    for many, (one, other) in enumerate(apart):
        if not differ(found, one, other, long):
            step = [vector for vector in space if differ(vector, one, other, long)][0]
            found = parted(found, step, apart[:many + 1], frame)
    return found


def parted(start, step, apart, frame):
    """The first vector from start on in the direction of step in which all these pairs are unlike."""
    # Each earlier pair is one at one place of the line at most, so four places are enough for up to four pairs.
    for times in range(1, 5):
        found = mixed(start, 1, step, times, frame[0])
        if all([differ(found, one, other, frame[2]) for one, other in apart]):
            return found
    return start
