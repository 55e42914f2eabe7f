"""Heads and programs: looked at, taken apart into knots, put into one another.

Programs may be told that are deeper than Python calls itself, so nothing here does:
the knots stand in a list, and what is made of a knot and its parts is made from the last knot on.
"""

from leastmaker.errors import NoHead, NoProgram

KINDS = ("num", "truth")

# For each word: how many numbers stand behind it, the kinds due to its parts, its own kind.
# None where that hangs on an input or on another part.
FORMS = {
    "in": (1, (), None),
    "num": (1, (), "num"),
    "yes": (0, (), "truth"),
    "no": (0, (), "truth"),
    "plus": (1, ("num",), "num"),
    "least": (0, ("num", "num"), "num"),
    "most": (0, ("num", "num"), "num"),
    "atmost": (0, ("num", "num"), "truth"),
    "not": (0, ("truth",), "truth"),
    "both": (0, ("truth", "truth"), "truth"),
    "either": (0, ("truth", "truth"), "truth"),
    "if": (0, ("truth", None, None), None),
}


def look_head(head):
    """True of a head, else NoHead."""
    if not isinstance(head, tuple) or len(head) != 2 or not isinstance(head[0], tuple):
        raise NoHead("form", 0)
    for at, kind in enumerate((*head[0], head[1])):
        if kind not in KINDS:
            raise NoHead("kind", at)
    return True


def kind_of(kinds, program):
    """The kind that the program tells, by the kinds of the inputs, else NoProgram."""
    every = knots(program)
    refuse_forms(every)
    refuse_inputs(every, len(kinds))
    wrong = None
    ready = []
    for at in reversed(range(len(every))):
        word = every[at][0]
        told = taken(ready, many_parts(word))
        if not parts_fit(word, told):
            wrong = at
        ready.append(own_kind(kinds, every[at], told))
    if wrong is not None:
        raise NoProgram("kind", wrong)
    return ready[0]


def knots(program):
    """The program and all programs in it, in text order; what has no form has no parts."""
    told = []
    waiting = [program]
    while waiting:
        knot = waiting.pop()
        told.append(knot)
        if has_form(knot):
            waiting.extend(parts_of(knot)[::-1])
    return told


def put(program, some):
    """The program with the k-th of some programs in the place of each input k."""
    ready = []
    for knot in reversed(knots(program)):
        parts = taken(ready, many_parts(knot[0]))
        if knot[0] == "in":
            ready.append(some[knot[1]])
        else:
            ready.append(front_of(knot) + parts)
    return ready[0]


def is_whole(thing):
    """Whether this is a whole number; Python's truths are ints, too, but none."""
    return isinstance(thing, int) and not isinstance(thing, bool)


def has_kind(kind, thing):
    """Whether this is a whole number or a truth, as the kind says."""
    return is_whole(thing) if kind == "num" else isinstance(thing, bool)


def has_form(thing):
    """Whether this is a tuple of a program's form, whatever its parts are."""
    # A word that is no text is never looked up: a deep tuple makes no key.
    if not isinstance(thing, tuple) or len(thing) == 0 or not isinstance(thing[0], str):
        return False
    word = thing[0]
    if word not in FORMS or len(thing) != 1 + many_numbers(word) + many_parts(word):
        return False
    return many_numbers(word) == 0 or is_whole(thing[1])


def many_numbers(word):
    """How many numbers stand behind the word: one or none."""
    return FORMS[word][0]


def many_parts(word):
    """How many parts a knot with this word has."""
    return len(FORMS[word][1])


def front_of(knot):
    """The knot without its parts: its word, and its number if it has one."""
    return knot[:1 + many_numbers(knot[0])]


def parts_of(knot):
    """The parts of a knot that has a form."""
    return knot[1 + many_numbers(knot[0]):]


def taken(pile, many):
    """So many things taken off the end of the pile, the last one first."""
    return tuple([pile.pop() for turn in range(many)])


def refuse_forms(every):
    """NoProgram at the first knot without a form."""
    for at, knot in enumerate(every):
        if not has_form(knot):
            raise NoProgram("form", at)


def refuse_inputs(every, many):
    """NoProgram at the first knot that is an input which isn't there."""
    for at, knot in enumerate(every):
        if knot[0] == "in" and not 0 <= knot[1] < many:
            raise NoProgram("input", at)


def parts_fit(word, told):
    """Whether these are the kinds due to the parts of a knot with this word."""
    due = FORMS[word][1]
    if word == "if":
        return told == (due[0], told[1], told[1])
    return told == due


def own_kind(kinds, knot, told):
    """The kind of a knot by itself, told the kinds that its parts have by themselves."""
    if knot[0] == "in":
        return kinds[knot[1]]
    if knot[0] == "if":
        return told[1]
    return FORMS[knot[0]][2]
