"""What a knot tells at many points at once, told the rows of its parts: a row has what is told at each point."""


def row_in(knot, rows, points):
    return tuple([point[knot[1]] for point in points])


def row_num(knot, rows, points):
    return (knot[1],) * len(points)


def row_yes(knot, rows, points):
    return (True,) * len(points)


def row_no(knot, rows, points):
    return (False,) * len(points)


def row_plus(knot, rows, points):
    step = knot[1]
    return tuple([a + step for a in rows[0]])


def row_least(knot, rows, points):
    return tuple([a if a <= b else b for a, b in zip(rows[0], rows[1])])


def row_most(knot, rows, points):
    return tuple([b if a <= b else a for a, b in zip(rows[0], rows[1])])


def row_atmost(knot, rows, points):
    return tuple([a <= b for a, b in zip(rows[0], rows[1])])


def row_not(knot, rows, points):
    return tuple([not p for p in rows[0]])


def row_both(knot, rows, points):
    return tuple([p and q for p, q in zip(rows[0], rows[1])])


def row_either(knot, rows, points):
    return tuple([p or q for p, q in zip(rows[0], rows[1])])


def row_if(knot, rows, points):
    return tuple([a if p else b for p, a, b in zip(rows[0], rows[1], rows[2])])


ROWS = {
    "in": row_in,
    "num": row_num,
    "yes": row_yes,
    "no": row_no,
    "plus": row_plus,
    "least": row_least,
    "most": row_most,
    "atmost": row_atmost,
    "not": row_not,
    "both": row_both,
    "either": row_either,
    "if": row_if,
}


def knot_row(knot, rows, points):
    """The row of a knot, with its parts or without, told the rows of these."""
    work = ROWS[knot[0]]
    return work(knot, rows, points)
