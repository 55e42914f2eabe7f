"""Programs and inputs drawn for the tests, the same at each run."""

import itertools
import random

KINDS = [("num",) * 3, ("num", "truth", "num"), ("truth", "num", "truth"), ("num", "num"), ("num",), ("truth",), ()]


def drawer(seed):
    return random.Random(seed)


def program(draw, kinds, kind, size, far=3, compares=6, ifs=6):
    """A program of at most so many knots, comparisons and ifs."""
    left = {"compares": compares, "ifs": ifs}

    def leaf(kind):
        inputs = [("in", k) for k, own in enumerate(kinds) if own == kind]
        if inputs and draw.random() < 0.8:
            return draw.choice(inputs)
        if kind == "num":
            return ("num", draw.randint(-far, far))
        return draw.choice([("yes",), ("no",)])

    def split(size, many):
        cuts = sorted(draw.sample(range(1, size), many - 1))
        return [end - start for start, end in zip([0, *cuts], [*cuts, size])]

    def grow(kind, size):
        words = {"num": ["plus"], "truth": ["not"]}[kind] if size >= 2 else []
        if size >= 3:
            words = words + {"num": [], "truth": ["both", "either"] * 2}[kind]
            if left["compares"]:
                words = words + {"num": ["least", "most"] * 2, "truth": ["atmost"] * 4}[kind]
        if size >= 4 and left["ifs"]:
            words = words + ["if"] * 2
        if not words:
            return leaf(kind)
        word = draw.choice(words)
        if word == "plus":
            return ("plus", draw.randint(-far, far), grow("num", size - 1))
        if word == "not":
            return ("not", grow("truth", size - 1))
        if word in ("both", "either"):
            return (word, *[grow("truth", part) for part in split(size - 1, 2)])
        if word == "if":
            left["ifs"] -= 1
            sizes = split(size - 1, 3)
            return ("if", grow("truth", sizes[0]), grow(kind, sizes[1]), grow(kind, sizes[2]))
        left["compares"] -= 1
        return (word, *[grow("num", part) for part in split(size - 1, 2)])

    return grow(kind, size)


def all_inputs(kinds, numbers):
    """All inputs with these numbers."""
    return list(itertools.product(*[numbers if kind == "num" else (True, False) for kind in kinds]))


def inputs(draw, kinds, far):
    return tuple(draw.randint(-far, far) if kind == "num" else draw.random() < 0.5 for kind in kinds)


def near(draw, kinds, offsets, many=40):
    """Inputs whose nums lie about one another and about 0 by these offsets, and one less and more."""
    told = []
    for turn in range(many):
        numbers = [0]
        chosen = []
        for kind in kinds:
            if kind == "num":
                numbers.append(draw.choice(numbers) + draw.choice(offsets) + draw.choice((-1, 0, 0, 1)))
                chosen.append(numbers[-1])
            else:
                chosen.append(draw.random() < 0.5)
        told.append(tuple(chosen))
    return told


def wishes(seed, turns, fars=(1, 3, 1000)):
    """So many wishes, each as (drawer, head, wish)."""
    draw = drawer(seed)
    for turn in range(turns):
        kinds, kind = draw.choice(KINDS), draw.choice(("num", "truth"))
        yield draw, (kinds, kind), program(draw, (*kinds, kind), "truth", draw.randint(3, 24), far=draw.choice(fars))
