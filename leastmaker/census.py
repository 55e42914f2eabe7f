"""Points that part all that programs of a stock do, to some weight."""

from leastmaker.always import same
from leastmaker.growth import Pile, made_kind, made_program, makings, tops_of
from leastmaker.meaning import value
from leastmaker.shelves import row_of, shelf_of
from leastmaker.stocks import STOCK

FEW = 3


def census(kinds, *, stock=STOCK, most=FEW):
    """(points, shelf): programs of one kind and row at these points are the same everywhere."""
    points = tuple([inputs for one, other, inputs in partings(kinds, (), stock, most)])
    return points, shelf_of(kinds, points, stock=stock, most=most)


def unparted(kinds, points, *, stock=STOCK, most=FEW):
    """None, where the points part so, else (one, other, inputs): of one kind and row, but unlike at the inputs."""
    for parting in partings(kinds, points, stock, most):
        return parting
    return None


def partings(kinds, start, stock, most):
    """(one, other, inputs) of programs of one kind and row, but unlike at the inputs, which are a point from then on.

    Kept is one of the lightest programs of all that are the same everywhere, for each. What is made of any parts is
    the same as what is made of the kept ones that are the same as these, so parts are taken from what is kept alone.
    """
    tops = tops_of(kinds, stock)
    points = list(start)
    entries = []
    kept = {}
    for load in range(1, most + 1):
        pile = Pile(entries, load)
        for rank, top, parts in makings(tops, pile, load):
            kind, program = made_kind(kinds, top, parts), made_program(top, parts)
            row = row_of(program, points)
            if (kind, row) in kept:
                rival = kept[kind, row]
                word, paper = same(kinds, rival, program)
                if word == "same":
                    continue
                points.append(paper)
                kept = with_point(kept, paper)
                row = (*row, value(program, paper))
                yield (rival, program, paper)
            kept[kind, row] = program
            # Rows grow with the points, and nothing asks these entries for theirs.
            entries.append((load, kind, None, program))


def with_point(kept, point):
    """What is kept by kinds and rows, with what it tells at one point more at the end of the rows."""
    return {(kind, (*row, value(program, point))): program for (kind, row), program in kept.items()}
