"""Numbers below a prime, and matrices of them."""

from twicemany.forms import number_within

GREATEST_PRIME = 1000003


def is_prime(p):
    """Whether p is a prime from 2 to 1000003."""
    if not number_within(p, 2, GREATEST_PRIME):
        return False
    if p < 4:
        return True
    if p % 2 == 0:
        return False
    divisor = 3
    while divisor * divisor <= p:
        if p % divisor == 0:
            return False
        divisor += 2
    return True


def inverse(a, p):
    """The number b with a * b = 1 modulo p."""
    high, low = p, a % p
    above, b = 0, 1
    while low > 1:
        times = high // low
        high, low = low, high - times * low
        above, b = b, above - times * b
    return b % p


def reduced(matrix, many, p):
    """The reduced rows that span what the rows of the matrix span."""
    rows = [list(row) for row in matrix]
    done = 0
    for column in range(many):
        found = first_with(rows, done, column)
        if found is not None:
            rows[done], rows[found] = rows[found], rows[done]
            clear_column(rows, done, column, p)
            done += 1
    return tuple([tuple(row) for row in rows[:done]])


def first_with(rows, start, column):
    """The first row from start on that has a number other than 0 in the column, or None."""
    for at in range(start, len(rows)):
        if rows[at][column] != 0:
            return at
    return None


def clear_column(rows, pivot, column, p):
    """Make the pivot row have 1 in the column, and all other rows 0."""
    scale = inverse(rows[pivot][column], p)
    chosen = [scale * number % p for number in rows[pivot]]
    for at in range(len(rows)):
        times = rows[at][column]
        if at == pivot:
            rows[at] = chosen
        elif times != 0:
            rows[at] = [(number - times * other) % p for number, other in zip(rows[at], chosen)]


def pivots_of(rows):
    """The place of the first number other than 0 of each reduced row."""
    return [first_place(row) for row in rows]


def first_place(numbers):
    """The first place at which a number other than 0 stands, or None."""
    for place, number in enumerate(numbers):
        if number != 0:
            return place
    return None


def kernel(matrix, many, p):
    """The reduced rows that span all tuples that the rows of the matrix do not see."""
    rows = reduced(matrix, many, p)
    pivots = pivots_of(rows)
    unseen = []
    for free in range(many):
        if free not in pivots:
            numbers = [0] * many
            numbers[free] = 1
            for row, place in zip(rows, pivots):
                numbers[place] = -row[free] % p
            unseen.append(numbers)
    return reduced(unseen, many, p)


def solved(matrix, many, right, p):
    """A tuple that gives the sums of right, with the kernel; None if there is none."""
    beside = [list(row) + [number] for row, number in zip(matrix, right)]
    rows = reduced(beside, many + 1, p)
    pivots = pivots_of(rows)
    if many in pivots:
        return None
    numbers = [0] * many
    for row, place in zip(rows, pivots):
        numbers[place] = row[many]
    return tuple(numbers), kernel(matrix, many, p)
