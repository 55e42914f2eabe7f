"""Wishes for a num met anyhow: the inputs are carved into cases, each with one term that does all over it.

At some inputs of those that are left an answer that does is sought. What the wish asks there leads to a
cell, a region in which it is so; in this the answer is held to the term that bounds it, and the cell's closed
bounds, but for the answer's, say of which inputs the term does. Those beside them are left for later. No cell
comes twice with one term for what is left, and there are but so many of both, so this ends.
"""

from leastmaker.closures import known, number_at
from leastmaker.regions import answer_in, inputs_in, narrowed, open_region
from leastmaker.trees import grown, question_program, term_program
from leastmaker.walks import case_at, cases_of


def carved(kinds, wish):
    """("does", program) that meets the wish for a num, else ("void", inputs)."""
    everywhere = open_region((*kinds, "num"))
    fronts = []
    left = [everywhere]
    while left:
        region = left.pop()
        inputs = inputs_in(region)[:-1]
        answer = some_answer(wish, pinned(region, inputs))
        if answer is None:
            return ("void", inputs)
        # Sought from everywhere on, as what is left would make ever new cells.
        cell = case_at(wish, everywhere, (*inputs, answer))
        i, c = bounding_term(cell[0], inputs)
        for question, truth, beside in way_into(held(cell, i, c), region):
            fronts.append(("if", condition(question, truth)))
            left.append(beside)
        fronts.append(term_program(i, c))
    return ("does", grown(fronts))


def pinned(region, inputs):
    """These inputs of the region alone, with what follows them free."""
    here = region
    for k, thing in enumerate(inputs):
        if isinstance(thing, bool):
            here = narrowed(here, ("truth", k), thing)
        else:
            here = narrowed(here, ("row", k, -1, thing), True)
            here = narrowed(here, ("row", -1, k, -thing), True)
    return here


def some_answer(wish, region):
    """An answer, the last one of the inputs, that does somewhere in the region, None without any."""
    for front, inner in cases_of(wish, region):
        if front == ("end", True):
            return inputs_in(inner)[-1]
    return None


def bounding_term(closed, inputs):
    """The term (i, c) that is, at the inputs, the least that the answer behind them may be, else the most."""
    answer = len(inputs)
    places = places_ahead(answer)
    lows = [(i, -closed[i][answer]) for i in places if closed[i][answer] is not None]
    highs = [(j, closed[answer][j]) for j in places if closed[answer][j] is not None]
    if len(lows) > 0:
        return tightest(closed, inputs, lows, True)
    if len(highs) > 0:
        return tightest(closed, inputs, highs, False)
    return (-1, 0)


def tightest(closed, inputs, terms, are_low):
    """The term that bounds the answer the most at the inputs, of some that are all low or all high for it."""
    best = terms[0]
    for term in terms[1:]:
        high, low = (term, best) if are_low else (best, term)
        if is_above(closed, inputs, high, low):
            best = term
    return best


def is_above(closed, inputs, high, low):
    """Whether one term is above the other at the inputs or, the same there, nowhere below it."""
    (i, c), (j, d) = low, high
    gap = number_at(inputs, j) + d - number_at(inputs, i) - c
    return gap > 0 or gap == 0 and known(closed, i, j, d - c) is True


def held(cell, i, c):
    """Those of the cell where the answer, its last number, is x of i and c."""
    answer = len(cell[1]) - 1
    above = narrowed(cell, ("row", i, answer, -c), True)
    return narrowed(above, ("row", answer, i, c), True)


def way_into(cell, region):
    """The questions that lead from the region to its part in the cell, each as (question, truth, beside).

    The truth is the answer that leads on, beside those of the region that have the other one.
    """
    here = region
    way = []
    for question, truth in [*known_truths(cell), *known_rows(cell)]:
        if answer_in(here, question) is None:
            way.append((question, truth, narrowed(here, question, not truth)))
            here = narrowed(here, question, truth)
    return way


def known_truths(cell):
    """What the cell says of truths, as questions with their answers."""
    return [(("truth", k), fact) for k, fact in enumerate(cell[1]) if isinstance(fact, bool)]


def known_rows(cell):
    """What the cell says of nums but of the last one, as questions with their answers.

    Rows that follow from two others come last, as most of them will be known then.
    """
    closed = cell[0]
    places = places_ahead(len(cell[1]) - 1)
    pairs = [(i, j) for i in places for j in places if i != j and closed[i][j] is not None]
    direct = [(i, j) for i, j in pairs if not follows(closed, places, i, j)]
    return [(("row", i, j, closed[i][j]), True) for i, j in [*direct, *pairs]]


def places_ahead(answer):
    """All i for which there is an x of i, but the answer's."""
    return list(range(answer)) + [-1]


def follows(closed, places, i, j):
    """Whether the bound of x of i by x of j follows from those of both and a third one."""
    return any([closed[i][k] is not None and closed[k][j] is not None and closed[i][k] + closed[k][j] == closed[i][j]
                for k in places if k != i and k != j])


def condition(question, truth):
    """A program that tells whether the question has this answer."""
    asked = question_program(question)
    return asked if truth else ("not", asked)
