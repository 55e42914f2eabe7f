"""Stocks: looked at, and programs weighed and set in order by them."""

from leastmaker.errors import NoStock
from leastmaker.programs import is_whole, knots

STOCK = (
    ((0, 1), (1, 1)),
    ((1, 1), (-1, 1)),
    (("least", 1), ("most", 1), ("atmost", 1), ("if", 1)),
)

# A stock's three tuples, by what a refusal calls one of theirs.
PARTS = ("number", "step", "word")
WORDS = ("yes", "no", "least", "most", "atmost", "not", "both", "either", "if")


def look_stock(stock):
    """True of a stock, else NoStock."""
    if not is_triple(stock):
        raise NoStock("form", 0)
    for part, pairs in zip(PARTS, stock):
        at = first_amiss(part, pairs)
        if at is not None:
            raise NoStock(part, at)
    return True


def weight(program, *, stock=STOCK):
    """The program's weight by the stock, None where it isn't of the stock."""
    total = 0
    for knot in knots(program):
        standing = standing_of(knot, stock)
        if standing is None:
            return None
        total += standing[1]
    return total


def comes_first(one, other, *, stock=STOCK):
    """Whether one comes ahead of the other, both programs of the stock."""
    return order_of(one, stock) < order_of(other, stock)


def order_of(program, stock):
    """The weight and the row of ranks of a program of the stock: what comes first compares as less."""
    standings = [standing_of(knot, stock) for knot in knots(program)]
    return sum([load for rank, load in standings]), [rank for rank, load in standings]


def standing_of(knot, stock):
    """The rank and the weight of a knot by itself, None where the stock lacks it."""
    if knot[0] == "in":
        return (0, knot[1]), 1
    part, key = place_of(knot)
    for at, (own, load) in enumerate(stock[part]):
        if own == key:
            return (part + 1, at), load
    return None


def place_of(knot):
    """In which of the stock's tuples a knot that is no input stands, and by what."""
    if knot[0] == "num":
        return 0, knot[1]
    if knot[0] == "plus":
        return 1, knot[1]
    return 2, knot[0]


def is_triple(thing):
    """Whether this is of a stock's form."""
    if not isinstance(thing, tuple) or len(thing) != 3:
        return False
    return all([are_pairs(part, pairs) for part, pairs in zip(PARTS, thing)])


def are_pairs(part, pairs):
    """Whether this is of the form of this one of a stock's tuples."""
    return isinstance(pairs, tuple) and all([is_pair(part, pair) for pair in pairs])


def is_pair(part, pair):
    """Whether this is of the form of a number, a step or a word with its weight."""
    if not isinstance(pair, tuple) or len(pair) != 2 or not is_whole(pair[1]):
        return False
    if part == "word":
        return isinstance(pair[0], str)
    return is_whole(pair[0])


def first_amiss(part, pairs):
    """The place of the first pair that may not stand in this one of a stock's tuples, None without any."""
    ahead = []
    for at, (key, load) in enumerate(pairs):
        if key in ahead or load < 1 or not may_stand(part, key):
            return at
        ahead.append(key)
    return None


def may_stand(part, key):
    """Whether the number, the step or the word is one that a stock may have."""
    if part == "step":
        return key != 0
    return part == "number" or key in WORDS
