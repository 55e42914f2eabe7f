"""What is made, looked at by one who searches nothing."""

from leastmaker.always import sure_holds
from leastmaker.programs import kind_of
from leastmaker.shelves import MOST, shelf_holds
from leastmaker.stocks import STOCK, weight
from leastmaker.wishes import failing_place, met_by


def answer_holds(head, wish, answer, *, stock=STOCK, most=MOST):
    """Whether the answer shows that its program is one of the lightest that meet the wish, or that none does."""
    if answer[0] == "none":
        word, points, shelf = answer
        return shelf_shows(head, wish, points, shelf, stock, most)
    word, program, points, shelf, tree = answer
    load = weight(program, stock=stock)
    if load is None or load > most or kind_of(head[0], program) != head[1]:
        return False
    if not sure_holds(head[0], met_by(wish, program, many=len(head[0])), tree):
        return False
    return shelf_shows(head, wish, points, shelf, stock, load - 1)


def shelf_shows(head, wish, points, shelf, stock, most):
    """Whether the shelf shows that no program of the stock, to this weight, meets the wish."""
    if not shelf_holds(head[0], points, shelf, stock=stock, most=most):
        return False
    found = {}
    return all([kind != head[1] or failing_place(wish, points, row, found) is not None
                for load, kind, row, program in shelf])
