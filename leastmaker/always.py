"""What is so at every input, and where it isn't."""

from leastmaker.programs import kind_of
from leastmaker.regions import inputs_in, open_region
from leastmaker.trees import grown, tree_holds
from leastmaker.walks import cases_of


def always(kinds, program):
    """("sure", tree), where the truth program is so at every input, else ("fails", inputs)."""
    everywhere = open_region(kinds)
    fronts = []
    for front, region in cases_of(program, everywhere):
        if front == ("end", False):
            return ("fails", inputs_in(region))
        fronts.append(front)
    return ("sure", grown(fronts))


def sure_holds(kinds, program, tree):
    """Whether this is a tree of the truth program to whose ends that are False no input leads."""
    return tree_holds(kinds, ("yes",), tree) and tree_holds(kinds, program, tree)


def alike(kind, one, other):
    """A truth program that is so where both programs of this kind tell the same."""
    if kind == "num":
        return ("both", ("atmost", one, other), ("atmost", other, one))
    return ("either", ("both", one, other), ("both", ("not", one), ("not", other)))


def same(kinds, one, other):
    """("same", tree), where both programs, of one kind, tell the same everywhere, else ("unlike", inputs)."""
    word, paper = always(kinds, alike(kind_of(kinds, one), one, other))
    return ("same" if word == "sure" else "unlike", paper)
