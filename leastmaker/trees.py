"""Trees of bounds: told of programs, worked at inputs, looked at.

Trees may be told that are deeper than Python calls itself, so nothing here does.
"""

from leastmaker.closures import number_at
from leastmaker.programs import kind_of, taken
from leastmaker.regions import answer_at, are_equal, open_region
from leastmaker.walks import cases_of

# For each word of a tree's knot how many things, that are no trees, it begins with.
FRONTS = {"end": 2, "row": 4, "truth": 2}
# The words, of trees and of programs made like trees, that choose between two branches.
FORKS = ("row", "truth", "if")


def tree_of(kinds, program):
    """A tree that tells at every input what the program tells."""
    everywhere = open_region(kinds)
    return grown([front for front, region in cases_of(program, everywhere)])


def tree_at(tree, inputs):
    """What the tree tells at these inputs."""
    knot = tree
    while knot[0] != "end":
        yes, no = branches_of(knot)
        knot = yes if answer_at(knot, inputs) else no
    end = knot[1]
    if isinstance(end, tuple):
        return number_at(inputs, end[0]) + end[1]
    return end


def tree_holds(kinds, program, tree):
    """Whether this is a tree of the program."""
    if not tree_fits(kinds, kind_of(kinds, program), tree):
        return False
    everywhere = open_region(kinds)
    choices = choices_of(tree)
    for front, region in cases_of(choices, everywhere):
        if front[0] == "end" and not is_told(program, region, front[1]):
            return False
    return True


def is_told(program, region, end):
    """Whether the program tells what the end does, all over the region."""
    for front, inner in cases_of(program, region):
        if front[0] == "end" and not are_equal(inner, front[1], end):
            return False
    return True


def grown(fronts):
    """The tree, or the program of ifs, whose knots without their branches are these in text order."""
    ready = []
    for front in reversed(fronts):
        ready.append(front + taken(ready, 2) if front[0] in FORKS else front)
    return ready[0]


def branches_of(knot):
    """The trees right in this one: none of an end, else yes and no."""
    return knot[FRONTS[knot[0]]:]


def tree_knots(tree):
    """The tree and all trees in it, in text order."""
    told = []
    waiting = [tree]
    while waiting:
        knot = waiting.pop()
        told.append(knot)
        waiting.extend(branches_of(knot)[::-1])
    return told


def tree_fits(kinds, kind, tree):
    """Whether all that the tree asks and tells is there by the kinds, and its ends have this kind."""
    return all([knot_fits(kinds, kind, knot) for knot in tree_knots(tree)])


def knot_fits(kinds, kind, knot):
    """Whether what a knot by itself asks or tells is there, and is of this kind where it tells something."""
    if knot[0] == "row":
        return is_number_place(kinds, knot[1]) and is_number_place(kinds, knot[2])
    if knot[0] == "truth":
        return 0 <= knot[1] < len(kinds) and kinds[knot[1]] == "truth"
    if kind == "num":
        return isinstance(knot[1], tuple) and is_number_place(kinds, knot[1][0])
    return isinstance(knot[1], bool)


def is_number_place(kinds, i):
    """Whether x of i is there."""
    return i == -1 or 0 <= i < len(kinds) and kinds[i] == "num"


def choices_of(tree):
    """A program that makes the tree's choices and tells what it tells."""
    return grown([front_program(knot) for knot in tree_knots(tree)])


def front_program(knot):
    """A program that tells what an end does, or an if, without its branches, that asks what a knot asks."""
    if knot[0] == "end":
        return end_program(knot[1])
    return ("if", question_program(knot))


def end_program(end):
    """A program that tells what the end does."""
    if isinstance(end, tuple):
        return term_program(end[0], end[1])
    return ("yes",) if end else ("no",)


def question_program(knot):
    """A program that tells whether what a knot asks is so."""
    if knot[0] == "truth":
        return ("in", knot[1])
    i, j, c = knot[1:4]
    if i == -1:
        return ("atmost", ("num", -c), term_program(j, 0))
    return ("atmost", ("in", i), term_program(j, c))


def term_program(i, c):
    """A program that tells x of i and c."""
    if i == -1:
        return ("num", c)
    return ("in", i) if c == 0 else ("plus", c, ("in", i))
