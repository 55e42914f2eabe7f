"""The first program of a stock that meets a wish, and how it is come to."""

from leastmaker.always import alike
from leastmaker.programs import kind_of
from leastmaker.shelves import MOST, entries_of, row_of, shelf_of
from leastmaker.stocks import STOCK, weight
from leastmaker.wishes import answer_does, failing_place, meets


def made(head, wish, *, stock=STOCK, most=MOST):
    """("made", program, points, shelf, tree), the first program that meets the wish, or ("none", points, shelf)."""
    return made_from(head, wish, (), stock, most)


def made_from(head, wish, start, stock, most):
    """What is made, with these points ahead of those that are found."""
    program, points = first_meeting(head, wish, start, stock, most)
    if program is None:
        return ("none", points, shelf_of(head[0], points, stock=stock, most=most))
    lighter = shelf_of(head[0], points, stock=stock, most=weight(program, stock=stock) - 1)
    return ("made", program, points, lighter, meets(head, wish, program)[1])


def rounds(head, wish, *, stock=STOCK, most=MOST):
    """(program, inputs) of each round: the first program that does at all inputs ahead, and where it fails."""
    last, points = first_meeting(head, wish, (), stock, most)
    # Whatever comes ahead of the last program fails at one of these points, so rows there tell all rounds.
    shelf = shelf_of(head[0], points, stock=stock, most=most if last is None else weight(last, stock=stock))
    left = [(row, program) for load, kind, row, program in shelf if kind == head[1]]
    told = []
    found = {}
    while len(left) > 0 and left[0][1] != last:
        at = failing_place(wish, points, left[0][0], found)
        told.append((left[0][1], points[at]))
        left = [(row, program) for row, program in left if answer_does(wish, points, at, row[at], found)]
    return [*told, (last, None)]


def least_of(kinds, program, *, stock=STOCK, most=MOST):
    """The first program of the stock, no heavier than most, that is the same everywhere, or None."""
    kind = kind_of(kinds, program)
    wish = alike(kind, ("in", len(kinds)), program)
    return first_meeting((kinds, kind), wish, (), stock, most)[0]


def first_meeting(head, wish, start, stock, most):
    """(program, points): the first program that meets the wish, None without any, and points, these ahead.

    Each program that comes ahead of it, or no heavier than most where there is none, fails at one of the points.
    """
    points = list(start)
    for load in range(1, most + 1):
        program, failing = tried(head, wish, points, stock, load)
        while len(failing) > 0:
            points.extend(failing)
            program, failing = tried(head, wish, points, stock, load)
        if program is not None:
            return program, tuple(points)
    return None, tuple(points)


def tried(head, wish, points, stock, most):
    """(program, failing): a program of the points' shelf that meets the wish, or None, and where others fail.

    Those that do at all points are tried in their order, but for such as fail where one ahead of them does. Each
    stands for all of its row; so only where none of them fails it is certain that the program is the first of all.
    """
    kinds, kind = head
    failing = []
    found, more = {}, {}
    for load, own, row, program, ranks in entries_of(kinds, points, stock, most):
        if own == kind and failing_place(wish, points, row, found) is None:
            if failing_place(wish, failing, row_of(program, failing), more) is None:
                word, paper = meets(head, wish, program)
                if word == "sure":
                    return program, failing
                failing.append(paper)
    return None, failing
