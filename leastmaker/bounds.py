"""Bounds: rows (i, j, c), each of which says that x of i is at most x of j and c together."""

from leastmaker.closures import number_at, open_bounds, point_in, tightened


class Bounds:
    """Rows over so many numbers."""

    def __init__(self, many, rows=()):
        self.many = many
        self.given = tuple([(i, j, c) for i, j, c in rows])
        # None where the rows hold of no numbers.
        self.closed = closed_by(many, self.given)

    def rows(self):
        """The rows, in the order in which they came."""
        return self.given

    def holds(self, numbers):
        """Whether all rows hold of these numbers."""
        return all([number_at(numbers, i) <= number_at(numbers, j) + c for i, j, c in self.given])

    def is_empty(self):
        """Whether the rows hold of no numbers."""
        return self.closed is None

    def also(self, i, j, c):
        """Bounds with one row more."""
        return Bounds(self.many, (*self.given, (i, j, c)))

    def ring(self):
        """The numbers of rows that go round and come together below 0, None where these aren't empty."""
        if self.closed is not None:
            return None
        return ring_among(self.many, self.given)

    def point(self):
        """Numbers of which all rows hold, None where these are empty."""
        if self.closed is None:
            return None
        return point_in(self.closed)

    def least(self, i, j):
        """The least c such that x of i is at most x of j and c, None without any; not of empty ones."""
        return self.closed[i][j]

    def __eq__(self, other):
        return isinstance(other, Bounds) and self.many == other.many and self.closed == other.closed

    def __len__(self):
        return len(self.given)

    def __repr__(self):
        return f"Bounds({self.many}, {len(self.given)})"


def ring_holds(bounds, ring):
    """Whether the tuple is a ring of these rows."""
    rows = bounds.rows()
    if len(ring) == 0 or len(set(ring)) < len(ring):
        return False
    if not all([0 <= at < len(rows) for at in ring]):
        return False
    taken_rows = [rows[at] for at in ring]
    return go_round(taken_rows) and sum([c for i, j, c in taken_rows]) < 0


def go_round(rows):
    """Whether each row ends where the next one begins, the last one where the first one does."""
    behind = [*rows[1:], rows[0]]
    return all([row[1] == following[0] for row, following in zip(rows, behind)])


def closed_by(many, rows):
    """The closed bounds that have these rows, None where these hold of no numbers."""
    closed = open_bounds(many)
    for i, j, c in rows:
        closed = tightened(closed, i, j, c)
        if closed is None:
            return None
    return closed


def ring_among(many, rows):
    """The numbers of rows that go round and come together below 0, among rows that hold of no numbers."""
    place, by = lowered(many, rows)
    # As many steps as there are places end on the ring, whatever leads to it.
    for turn in range(many + 1):
        place = rows[by[place]][1]
    ring = [by[place]]
    end = rows[by[place]][1]
    while end != place:
        ring.append(by[end])
        end = rows[by[end]][1]
    return tuple(ring)


def lowered(many, rows):
    """A place still lowered at the last turn, and for each place the number of the row that lowered it last.

    Numbers that begin at 0 are lowered by the rows that they don't keep, as often as there are places: more
    often than is needed where some numbers keep all rows, so a ring still lowers what is lowered then.
    """
    numbers = [0] * (many + 1)
    by = [None] * (many + 1)
    place = None
    for turn in range(many + 1):
        for at, (i, j, c) in enumerate(rows):
            if numbers[j] + c < numbers[i]:
                numbers[i] = numbers[j] + c
                by[i] = at
                place = i
    return place, by
