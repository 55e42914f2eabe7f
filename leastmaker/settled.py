"""Whether a wish leaves one answer at most, and what else meets it where it leaves more."""

from leastmaker.always import alike, always
from leastmaker.meaning import value
from leastmaker.programs import put
from leastmaker.wishes import is_at, plain_inputs


def clashless(head, wish):
    """A truth program, of inputs and two answers, that is so but where both do and are unlike."""
    kinds, kind = head
    many = len(kinds)
    one, other = ("in", many), ("in", many + 1)
    second = put(wish, (*plain_inputs(many), other))
    return ("not", ("both", ("both", wish, second), ("not", alike(kind, one, other))))


def settled(head, wish):
    """("one", tree), where at every input one answer at most does, else ("two", inputs, one, other)."""
    kinds, kind = head
    word, paper = always((*kinds, kind, kind), clashless(head, wish))
    if word == "sure":
        return ("one", paper)
    return ("two", paper[:-2], paper[-2], paper[-1])


def another(head, wish, program):
    """None, where the wish that the program meets is settled, else (other, inputs): another one that meets it."""
    told = settled(head, wish)
    if told[0] == "one":
        return None
    inputs, one, other = told[1:]
    answer = other if value(program, inputs) == one else one
    return ("if", is_at(inputs), constant(answer), program), inputs


def constant(answer):
    """The program that tells this number or truth everywhere."""
    if isinstance(answer, bool):
        return ("yes",) if answer else ("no",)
    return ("num", answer)
