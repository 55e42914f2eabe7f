"""The first program of a stock that meets a wish, sought round by round."""

from leastmaker.always import alike
from leastmaker.programs import kind_of
from leastmaker.shelves import MOST, entries_of, shelf_of
from leastmaker.stocks import STOCK, weight
from leastmaker.wishes import meets, row_does


def made(head, wish, *, stock=STOCK, most=MOST):
    """("made", program, points, shelf, tree), the first program that meets the wish, or ("none", points, shelf)."""
    return made_from(head, wish, (), stock, most)


def rounds(head, wish, *, stock=STOCK, most=MOST):
    """(program, inputs) of each round: the first program that does at all inputs ahead, and where it fails."""
    return rounds_from(head, wish, (), stock, most)


def least_of(kinds, program, *, stock=STOCK, most=MOST):
    """The first program of the stock, no heavier than most, that is the same everywhere, or None."""
    kind = kind_of(kinds, program)
    wish = alike(kind, ("in", len(kinds)), program)
    return rounds((kinds, kind), wish, stock=stock, most=most)[-1][0]


def made_from(head, wish, start, stock, most):
    """What is made, with these points ahead of those that the rounds find."""
    every = rounds_from(head, wish, start, stock, most)
    program = every[-1][0]
    points = (*start, *[inputs for tried, inputs in every[:-1]])
    if program is None:
        return ("none", points, shelf_of(head[0], points, stock=stock, most=most))
    lighter = shelf_of(head[0], points, stock=stock, most=weight(program, stock=stock) - 1)
    return ("made", program, points, lighter, meets(head, wish, program)[1])


def rounds_from(head, wish, start, stock, most):
    """The rounds, where each program has to do at these points, too."""
    told = []
    points = list(start)
    while True:
        program = first_doing(head, wish, points, stock, most)
        if program is None:
            return [*told, (None, None)]
        word, paper = meets(head, wish, program)
        if word == "sure":
            return [*told, (program, None)]
        told.append((program, paper))
        points.append(paper)


def first_doing(head, wish, points, stock, most):
    """The first program of the stock, to this weight, that does what the wish says at the points, or None."""
    kinds, kind = head
    found = {}
    for entry in entries_of(kinds, points, stock, most):
        if entry[1] == kind and row_does(wish, points, entry[2], found):
            return entry[3]
    return None
