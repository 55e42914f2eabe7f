"""What a stock makes of programs, weight by weight: each of a top, a knot without its parts, and entries for these.

Entries are (weight, kind, row, program), as of a shelf, and behind these the program's ranks where an order is
asked for. No program's ranks begin with all of another one's; so what has one top comes in the order of its first
parts, what has the same first part in that of the second ones, and so on.
"""

from leastmaker.programs import FORMS
from leastmaker.rows import knot_row


class Pile:
    """Entries to take parts from, in the order in which they came."""

    def __init__(self, entries, heaviest):
        # By kind, None for either, and weight: the entries of this weight, and those up to it.
        self.just = {}
        self.upto = {}
        for kind in ("num", "truth", None):
            own = [entry for entry in entries if kind is None or entry[1] == kind]
            for load in range(heaviest + 1):
                self.just[kind, load] = [entry for entry in own if entry[0] == load]
                self.upto[kind, load] = [entry for entry in own if entry[0] <= load]

    def weighing(self, kind, load):
        """The entries of this kind that have this weight."""
        return self.just[kind, load]

    def no_heavier(self, kind, load):
        """The entries of this kind that have no greater weight."""
        return self.upto[kind, load]


def tops_of(kinds, stock):
    """(top, weight) of all that inputs of these kinds and the stock have, in the order of their ranks."""
    numbers, steps, words = stock
    return [
        *[(("in", k), 1) for k in range(len(kinds))],
        *[(("num", c), load) for c, load in numbers],
        *[(("plus", c), load) for c, load in steps],
        *[((word,), load) for word, load in words],
    ]


def makings(tops, pile, load):
    """(rank, top, parts) of all that weighs so much: in the order of programs, if the pile's entries came by ranks."""
    for rank, (top, own) in enumerate(tops):
        due = FORMS[top[0]][1]
        left = load - own
        if left >= len(due):
            for parts in fillings(pile, due, left):
                yield (rank, top, parts)


def fillings(pile, due, left):
    """Entries for parts of the kinds due, together of the weight that is left, which is 1 or more for each."""
    if len(due) == 0:
        if left == 0:
            yield ()
    elif len(due) == 1:
        for entry in pile.weighing(due[0], left):
            yield (entry,)
    else:
        for entry in pile.no_heavier(due[0], left - len(due) + 1):
            # The second part of an if may have either kind; the third one then has to have it, too.
            behind = (entry[1],) if due[0] is None else due[1:]
            rest = left - entry[0]
            for more in fillings(pile, behind, rest):
                yield (entry, *more)


def made_kind(kinds, top, parts):
    """The kind of what is made."""
    if top[0] == "in":
        return kinds[top[1]]
    if top[0] == "if":
        return parts[1][1]
    return FORMS[top[0]][2]


def made_program(top, parts):
    """The program that is made."""
    return top + tuple([entry[3] for entry in parts])


def made_ranks(rank, parts):
    """The ranks of the program that is made, its top's being this one."""
    told = (rank,)
    for entry in parts:
        told += entry[4]
    return told


def made_row(top, parts, points):
    """The row of what is made, at these points."""
    return knot_row(top, [entry[2] for entry in parts], points)
