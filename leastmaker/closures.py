"""Closed bounds: for each two of some numbers how far the one may at most be above the other.

In closed bounds stands at [i][j] the least c such that x of i is at most x of j and c, None where there
is none. x of -1 is 0 and has the last place, where Python finds what is asked for by -1.
"""


def open_bounds(many):
    """The closed bounds over so many numbers that hold of all of them."""
    return tuple([tuple([0 if i == j else None for j in range(many + 1)]) for i in range(many + 1)])


def tightened(closed, i, j, c):
    """The closed bounds that have the row (i, j, c), too; None where they hold of no numbers."""
    answer = known(closed, i, j, c)
    if answer is not None:
        return closed if answer else None
    tight = []
    for row in closed:
        if row[i] is None:
            tight.append(row)
        else:
            tight.append(row_through(row, row[i] + c, closed[j]))
    return tuple(tight)


def known(closed, i, j, c):
    """Whether x of i is at most x of j and c, None where it is so of some numbers and not of others."""
    there, back = closed[i][j], closed[j][i]
    if there is not None and there <= c:
        return True
    if back is not None and back + c < 0:
        return False
    return None


def row_through(row, way, onward):
    """The row, lessened where going by this way and then onward is less."""
    return tuple([lesser(old, way, more) for old, more in zip(row, onward)])


def lesser(old, way, more):
    """The lesser one of old and of way and more together, where None is above all."""
    if more is None or old is not None and old <= way + more:
        return old
    return way + more


def point_in(closed):
    """A tuple of numbers of which the closed bounds hold."""
    # A number as far below 0 as it must be below any other one keeps all rows, but for x of -1 being 0.
    lows = [min([c for c in row if c is not None]) for row in closed]
    return tuple([low - lows[-1] for low in lows[:-1]])


def number_at(numbers, i):
    """x of i."""
    return 0 if i == -1 else numbers[i]
