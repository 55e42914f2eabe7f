"""Shelves: for each row that programs of a stock have at some points the first one that has it."""

from leastmaker.growth import Pile, made_kind, made_program, made_ranks, made_row, makings, tops_of
from leastmaker.programs import has_kind, is_whole, kind_of, knots, many_parts, taken
from leastmaker.rows import knot_row
from leastmaker.stocks import STOCK, weight

MOST = 5


def row_of(program, points):
    """What the program tells at each point."""
    ready = []
    for knot in reversed(knots(program)):
        parts = taken(ready, many_parts(knot[0]))
        ready.append(knot_row(knot, parts, points))
    return ready[0]


def shelf_of(kinds, points, *, stock=STOCK, most=MOST):
    """The shelf, in the order of its programs."""
    return tuple([entry[:4] for entry in entries_of(kinds, points, stock, most)])


def entries_of(kinds, points, stock, most):
    """Each entry of the shelf with its ranks behind, in the order of its programs.

    What is made of any parts has the row of what is made of the first ones with the same rows, which comes no
    later; so the first program of each row is made of entries.
    """
    tops = tops_of(kinds, stock)
    known = {}
    entries = []
    for load in range(1, most + 1):
        pile = Pile(sorted(entries, key=ranks_of), load)
        for rank, top, parts in makings(tops, pile, load):
            kind = made_kind(kinds, top, parts)
            row = made_row(top, parts, points)
            if (kind, row) not in known:
                known[kind, row] = True
                entry = (load, kind, row, made_program(top, parts), made_ranks(rank, parts))
                entries.append(entry)
                yield entry


def ranks_of(entry):
    """The ranks of the entry's program."""
    return entry[4]


def shelf_holds(kinds, points, shelf, *, stock=STOCK, most=MOST):
    """Whether all entries are right, none stands for a row that another one stands for, and they are closed."""
    if not all([entry_holds(kinds, points, entry, stock, most) for entry in shelf]):
        return False
    loads = {(kind, row): load for load, kind, row, program in shelf}
    return len(loads) == len(shelf) and is_closed(kinds, points, shelf, loads, stock, most)


def entry_holds(kinds, points, entry, stock, most):
    """Whether the entry's program is of the stock, no heavier than most, and has the entry's weight, kind and row."""
    load, kind, row, program = entry
    if not is_whole(load) or load > most or weight(program, stock=stock) != load:
        return False
    if kind_of(kinds, program) != kind or row_of(program, points) != row:
        return False
    # Python's truths are equal to numbers, but no row of the one kind is one of the other.
    return all([has_kind(kind, thing) for thing in row])


def is_closed(kinds, points, shelf, loads, stock, most):
    """Whether all that is made of entries, to this weight, has its row among theirs, at no greater weight."""
    tops = tops_of(kinds, stock)
    pile = Pile(shelf, most)
    for load in range(1, most + 1):
        for rank, top, parts in makings(tops, pile, load):
            key = made_kind(kinds, top, parts), made_row(top, parts, points)
            if key not in loads or loads[key] > load:
                return False
    return True
