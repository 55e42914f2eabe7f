"""Regions of inputs: those whose nums keep closed bounds and whose truths are as known.

A region is (closed, facts): for each input its fact is what it tells, (k, 0) of a num (x of k and 0), a truth
where it is known and None where it isn't. The numbers of the closed bounds are all inputs, so that they keep
their numbers; truths have no rows there. Regions here always have inputs in them.
A question is ("row", i, j, c), whether x of i is at most x of j and c, or ("truth", k), whether input k is so.
"""

from leastmaker.closures import known, number_at, open_bounds, point_in, tightened


def open_region(kinds):
    """All inputs of these kinds."""
    facts = [(k, 0) if kind == "num" else None for k, kind in enumerate(kinds)]
    return open_bounds(len(kinds)), tuple(facts)


def answer_in(region, question):
    """The answer that the question has all over the region, None where it has both."""
    closed, facts = region
    if question[0] == "truth":
        return facts[question[1]]
    return known(closed, question[1], question[2], question[3])


def answer_at(question, inputs):
    """The answer that the question has at inputs."""
    if question[0] == "truth":
        return inputs[question[1]]
    return number_at(inputs, question[1]) <= number_at(inputs, question[2]) + question[3]


def narrowed(region, question, answer):
    """Those of the region where the question has this answer, which it has somewhere there."""
    closed, facts = region
    if question[0] == "truth":
        k = question[1]
        return closed, (*facts[:k], answer, *facts[k + 1:])
    i, j, c = question[1:]
    if answer:
        return tightened(closed, i, j, c), facts
    # Of whole numbers, to be above c is to be at least one more.
    return tightened(closed, j, i, -c - 1), facts


def inputs_in(region):
    """Inputs of the region."""
    closed, facts = region
    # Truths are free where they aren't known.
    return tuple([number if isinstance(fact, tuple) else fact is True
                  for number, fact in zip(point_in(closed), facts)])


def are_equal(region, one, other):
    """Whether two ends of trees, of one kind, tell the same all over the region."""
    if not isinstance(one, tuple):
        return one == other
    closed = region[0]
    (i, c), (j, d) = one, other
    return known(closed, i, j, d - c) is True and known(closed, j, i, c - d) is True
