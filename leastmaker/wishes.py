"""Wishes: met by programs, made of examples, met anyhow."""

from leastmaker.always import always
from leastmaker.carving import carved
from leastmaker.meaning import value
from leastmaker.programs import put


def met_by(wish, program, *, many):
    """The truth program that says whether the program, with so many inputs, does what the wish says."""
    return put(wish, (*plain_inputs(many), program))


def meets(head, wish, program):
    """("sure", tree), where the program meets the wish, else ("fails", inputs)."""
    return always(head[0], met_by(wish, program, many=len(head[0])))


def wish_of(head, examples):
    """A wish that a program meets just where it tells the answers at the inputs of the examples."""
    many = len(head[0])
    return all_of([("either", ("not", is_at(inputs)), is_thing(many, answer)) for inputs, answer in examples])


def anyhow(head, wish):
    """("does", program), where some program meets the wish, else ("void", inputs) at which no answer does."""
    kinds, kind = head
    if kind == "num":
        return carved(kinds, wish)
    yes_does = met_by(wish, ("yes",), many=len(kinds))
    no_does = met_by(wish, ("no",), many=len(kinds))
    word, paper = always(kinds, ("either", yes_does, no_does))
    if word == "fails":
        return ("void", paper)
    # To answer whether yes does is to answer yes just where it does, and no elsewhere, where that does then.
    return ("does", yes_does)


def failing_place(wish, points, row, found):
    """The first place of the row whose answer doesn't do what the wish says at its point, None where all do.

    What is found of an answer is kept in found, by its place and itself.
    """
    for at, answer in enumerate(row):
        if not answer_does(wish, points, at, answer, found):
            return at
    return None


def answer_does(wish, points, at, answer, found):
    """Whether the answer does what the wish says at the point with this number; looked up, if found already."""
    # Few answers stand in many rows.
    if (at, answer) not in found:
        found[at, answer] = value(wish, (*points[at], answer))
    return found[at, answer]


def plain_inputs(many):
    """So many inputs, as programs."""
    return tuple([("in", k) for k in range(many)])


def is_at(inputs):
    """A truth program that is so at these inputs alone."""
    return all_of([is_thing(k, thing) for k, thing in enumerate(inputs)])


def is_thing(k, thing):
    """A truth program that is so where input k is this number or truth."""
    if isinstance(thing, bool):
        return ("in", k) if thing else ("not", ("in", k))
    return ("both", ("atmost", ("in", k), ("num", thing)), ("atmost", ("num", thing), ("in", k)))


def all_of(some):
    """A truth program that is so where all of these are."""
    if len(some) == 0:
        return ("yes",)
    whole = some[-1]
    for program in reversed(some[:-1]):
        whole = ("both", program, whole)
    return whole
