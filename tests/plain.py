"""What the document says of programs and texts, once more and as plainly as can be, for the tests.

Nothing here is taken from the package. It calls itself, so it is for programs of some hundreds of levels at most.
"""

NUMBER_WORDS = ("in", "num", "plus")
PARTS = {
    "in": "", "num": "", "yes": "", "no": "", "plus": "A", "least": "AB", "most": "AB",
    "atmost": "AB", "not": "P", "both": "PQ", "either": "PQ", "if": "PXY",
}
TELL_NUMBERS = ("num", "plus", "least", "most")

# For each word a program, its kind by the kinds num, truth, num, and its text.
KINDS = ("num", "truth", "num")
SAMPLES = [
    (("in", 0), "num", "in 0"),
    (("in", 1), "truth", "in 1"),
    (("in", 2), "num", "in 2"),
    (("num", 0), "num", "num 0"),
    (("num", -7), "num", "num -7"),
    (("num", 1000), "num", "num 1000"),
    (("yes",), "truth", "yes"),
    (("no",), "truth", "no"),
    (("plus", 3, ("in", 0)), "num", "plus 3 in 0"),
    (("plus", -1, ("num", 4)), "num", "plus -1 num 4"),
    (("plus", 0, ("plus", 10, ("in", 2))), "num", "plus 0 plus 10 in 2"),
    (("least", ("in", 0), ("in", 2)), "num", "least in 0 in 2"),
    (("most", ("num", 1), ("in", 0)), "num", "most num 1 in 0"),
    (("atmost", ("in", 2), ("num", 0)), "truth", "atmost in 2 num 0"),
    (("not", ("in", 1)), "truth", "not in 1"),
    (("both", ("yes",), ("in", 1)), "truth", "both yes in 1"),
    (("either", ("no",), ("not", ("in", 1))), "truth", "either no not in 1"),
    (("if", ("in", 1), ("in", 0), ("in", 2)), "num", "if in 1 in 0 in 2"),
    (("if", ("yes",), ("in", 1), ("no",)), "truth", "if yes in 1 no"),
    (("if", ("if", ("no",), ("in", 1), ("yes",)),
      ("if", ("in", 1), ("least", ("in", 0), ("num", 5)), ("in", 2)), ("plus", 2, ("in", 0))),
     "num", "if if no in 1 yes if in 1 least in 0 num 5 in 2 plus 2 in 0"),
]

# None of these is a tuple of a program's form.
NO_FORMS = [
    None, True, False, 0, 7, "", "in", "yes", "in 0", (), (None,), (0,), (True,), ((),), ("",), ("In", 0), ("YES",),
    ("nor", ("yes",)), ("num",), ("in",), ("in", True), ("in", False), ("in", None), ("in", "0"), ("in", (0,)),
    ("in", 0, 0), ("num", True), ("num", False), ("num", "1"), ("num", None), ("num", ("num", 1)), ("num", 1, 1),
    ("yes", 1), ("yes", ()), ("no", None), ("plus",), ("plus", 1), ("plus", True, ("in", 0)),
    ("plus", ("in", 0), 1), ("plus", None, ("in", 0)), ("plus", 1, ("in", 0), ("in", 0)), ("least", ("in", 0)),
    ("most", ("in", 0), ("in", 0), ("in", 0)), ("atmost",), ("not",), ("not", ("yes",), ("yes",)),
    ("both", ("yes",)), ("either", ("yes",), ("no",), ("no",)), ("if", ("yes",), ("num", 1)),
    ("if", ("yes",), ("num", 1), ("num", 1), ("num", 1)), (("yes",),), (("in", 0), 1), (("yes",), ("yes",)),
]


def is_formed(thing):
    if not isinstance(thing, tuple) or not thing or not isinstance(thing[0], str) or thing[0] not in PARTS:
        return False
    fixed = 2 if thing[0] in NUMBER_WORDS else 1
    return len(thing) == fixed + len(PARTS[thing[0]]) and (fixed == 1 or type(thing[1]) is int)


def parts(thing):
    if not is_formed(thing):
        return ()
    return thing[len(thing) - len(PARTS[thing[0]]):]


def knots(thing):
    return [thing] + [knot for part in parts(thing) for knot in knots(part)]


def own_kind(kinds, program):
    if program[0] == "in":
        return kinds[program[1]]
    if program[0] == "if":
        return own_kind(kinds, program[2])
    return "num" if program[0] in TELL_NUMBERS else "truth"


def fits(kinds, program):
    due = {"A": "num", "B": "num", "P": "truth", "Q": "truth"}
    have = [own_kind(kinds, part) for part in parts(program)]
    if program[0] == "if":
        due["X"] = due["Y"] = have[1]
    return have == [due[letter] for letter in PARTS[program[0]]]


def kind_or_refusal(kinds, program):
    """The kind, or (word, at)."""
    every = knots(program)
    looks = (
        ("form", lambda knot: is_formed(knot)),
        ("input", lambda knot: knot[0] != "in" or knot[1] in range(len(kinds))),
        ("kind", lambda knot: fits(kinds, knot)),
    )
    for word, is_right in looks:
        wrong = [at for at, knot in enumerate(every) if not is_right(knot)]
        if wrong:
            return word, wrong[0]
    return own_kind(kinds, program)


def put(program, some):
    if program[0] == "in":
        return some[program[1]]
    inner = parts(program)
    return program[:len(program) - len(inner)] + tuple(put(part, some) for part in inner)


def text(program):
    return " ".join(str(thing) for knot in knots(program) for thing in knot if not isinstance(thing, tuple))


def first_program(words):
    """(program, words behind it), or None where the words begin with no program."""
    if not words or words[0] not in PARTS:
        return None
    program, words = words[:1], words[1:]
    if program[0] in NUMBER_WORDS:
        number = words[0] if words else ""
        if number not in NUMBER_TEXTS or program[0] == "in" and number[0] == "-":
            return None
        program, words = program + (NUMBER_TEXTS[number],), words[1:]
    for letter in PARTS[program[0]]:
        found = first_program(words)
        if found is None:
            return None
        program, words = program + (found[0],), found[1]
    return program, words


NUMBER_TEXTS = {str(number): number for number in [*range(-1000, 1001), 999999, -999999]}


def whole_program(words):
    """The program with these words, at most 60 knots, or None. Of numbers it knows NUMBER_TEXTS."""
    found = first_program(tuple(words))
    if found is None or found[1] or len(knots(found[0])) > 60:
        return None
    return found[0]


def can_go_on(words):
    """Whether some words behind these, of some hundred knots perhaps, make a program's text of them."""
    for start in ([], ["0"]):
        for many in range(2 * len(words) + 2):
            found = first_program((*words, *start, *["yes"] * many))
            if found is not None and not found[1]:
                return True
    return False


def program_or_refusal(words):
    """The program, or the number of the word at which it is refused, for words of less than 61 knots."""
    program = whole_program(words)
    if program is not None:
        return program
    wrong = [at for at in range(len(words)) if not can_go_on(words[:at + 1])]
    return wrong[0] if wrong else len(words)


def value(program, inputs):
    word, inner = program[0], [value(part, inputs) for part in parts(program)]
    if word in ("in", "num", "plus"):
        return {"in": lambda: inputs[program[1]], "num": lambda: program[1],
                "plus": lambda: program[1] + inner[0]}[word]()
    return {
        "yes": lambda: True, "no": lambda: False,
        "least": lambda a, b: b if b < a else a, "most": lambda a, b: b if a < b else a,
        "atmost": lambda a, b: not b < a, "not": lambda p: p is False,
        "both": lambda p, q: [p, q] == [True, True], "either": lambda p, q: [p, q] != [False, False],
        "if": lambda p, a, b: {True: a, False: b}[p],
    }[word](*inner)


def weight(program, stock):
    found = [standing(knot, stock) for knot in knots(program)]
    return None if None in found else sum(load for rank, load in found)


def ranks(program, stock):
    return tuple(standing(knot, stock)[0] for knot in knots(program))


def standing(knot, stock):
    """(rank, weight), the rank as a number when all that may stand are counted on, from many inputs; or None."""
    table = {("in", k): (k, 1) for k in range(10)}
    for part, word in zip(stock, ("num", "plus", None)):
        for key, load in part:
            table[key if word is None else (word, key)] = (len(table), load)
    return table.get(knot[0] if knot[0] not in NUMBER_WORDS else knot[:2])


def number(numbers, i):
    return 0 if i == -1 else numbers[i]


def keeps(rows, numbers):
    return all(number(numbers, i) - number(numbers, j) <= c for i, j, c in rows)


def distances(many, rows):
    """The least c for each pair, by going through each place in between; None where no numbers keep the rows."""
    far = {(i, j): 0 if i == j else float("inf") for i in range(-1, many) for j in range(-1, many)}
    for i, j, c in rows:
        far[i, j] = min(far[i, j], c)
    for k in range(-1, many):
        for i in range(-1, many):
            for j in range(-1, many):
                far[i, j] = min(far[i, j], far[i, k] + far[k, j])
    return None if any(far[i, i] < 0 for i in range(-1, many)) else far


def is_ring(rows, ring):
    """Whether the numbers, at least one and none twice, are of rows that go round and come together below 0."""
    if not ring or sorted(set(ring)) != sorted(ring) or not set(ring) <= set(range(len(rows))):
        return False
    ends = [rows[at][1] for at in ring]
    return [rows[at][0] for at in ring] == ends[-1:] + ends[:-1] and sum(rows[at][2] for at in ring) < 0


def tree_value(tree, inputs):
    if tree[0] == "row":
        word, i, j, c, yes, no = tree
        return tree_value(yes if number(inputs, i) <= number(inputs, j) + c else no, inputs)
    if tree[0] == "truth":
        word, k, yes, no = tree
        return tree_value(yes if inputs[k] else no, inputs)
    word, end = tree
    return end if isinstance(end, bool) else number(inputs, end[0]) + end[1]


def tree_knots(tree):
    return [tree] + [knot for part in tree[1:] if isinstance(part, tuple) and part[0] in ("row", "truth", "end")
                     for knot in tree_knots(part)]


def is_tree(kinds, kind, thing):
    """Whether this is of a tree's form, asks and tells but what is there, and tells this kind."""
    def is_place(i):
        return type(i) is int and (i == -1 or i in range(len(kinds)) and kinds[i] == "num")
    if not isinstance(thing, tuple) or not thing:
        return False
    if thing[0] == "end" and len(thing) == 2:
        end = thing[1]
        if kind == "truth":
            return end is True or end is False
        return type(end) is tuple and len(end) == 2 and is_place(end[0]) and type(end[1]) is int
    if thing[0] == "row" and len(thing) == 6:
        fits_here = is_place(thing[1]) and is_place(thing[2]) and type(thing[3]) is int
    else:
        fits_here = thing[0] == "truth" and len(thing) == 4 and type(thing[1]) is int \
            and thing[1] in range(len(kinds)) and kinds[thing[1]] == "truth"
    return fits_here and is_tree(kinds, kind, thing[-2]) and is_tree(kinds, kind, thing[-1])


def programs_of(kinds, stock, most):
    """(weight, kind, program) of every program of the stock to this weight, in their order."""
    found = {}
    for load in range(1, most + 1):
        for kind in ("num", "truth"):
            found[kind, load] = [("in", k) for k, own in enumerate(kinds) if own == kind and load == 1]
            if kind == "num":
                found[kind, load] += [("num", c) for c, own in stock[0] if own == load]
                found[kind, load] += [("plus", c, part) for c, own in stock[1]
                                      for part in found.get(("num", load - own), [])]
            for word, own in stock[2]:
                if word == "if" or (word in TELL_NUMBERS) == (kind == "num"):
                    due = [{"A": "num", "B": "num", "P": "truth", "Q": "truth"}.get(letter, kind)
                           for letter in PARTS[word]]
                    found[kind, load] += [(word, *inner) for inner in parts_of(found, due, load - own)]
    every = [(load, kind, program) for (kind, load), programs in found.items() for program in programs]
    return sorted(every, key=lambda one: (one[0], ranks(one[2], stock)))


def parts_of(found, due, left):
    """All tuples of programs of the kinds due, of which the weights together are what is left."""
    if not due:
        return [()] if left == 0 else []
    return [(part, *more) for load in range(1, left + 1) for part in found.get((due[0], load), [])
            for more in parts_of(found, due[1:], left - load)]


def row(program, points):
    return tuple(value(program, point) for point in points)


def shelf(kinds, points, stock, most):
    """The shelf, by going through every program."""
    first = {}
    for load, kind, program in programs_of(kinds, stock, most):
        first.setdefault((kind, row(program, points)), (load, kind, row(program, points), program))
    return tuple(first.values())
