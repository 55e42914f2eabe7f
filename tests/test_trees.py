"""Points 13 and 14, and of point 2 what it says of leastmaker.trees."""

import unittest

from leastmaker.meaning import value
from leastmaker.programs import kind_of, put
from leastmaker.texts import read
from leastmaker.trees import tree_at, tree_holds, tree_of
from tests import chance, plain

MILLION = 10 ** 6
MOST = read("most in 0 in 1")
MOST_TREE = ("row", 0, 1, 0, ("end", (1, 0)), ("end", (0, 0)))
TRUTH = read("both in 1 atmost in 0 num 5")
TRUTH_TREE = ("truth", 1, ("row", 0, -1, 5, ("end", True), ("end", False)), ("end", False))


def drawn_programs(seed, turns):
    draw = chance.drawer(seed)
    for turn in range(turns):
        kinds = draw.choice(chance.KINDS)
        kind = draw.choice(("num", "truth"))
        yield draw, kinds, chance.program(draw, kinds, kind, draw.randint(5, 24), far=draw.choice((1, 3, 1000)))


def with_knot(tree, at, new):
    """The tree with another knot in the place of this one, in text order."""
    def go(knot, at):
        if at == 0:
            return new
        yes, no = knot[-2:]
        many = len(plain.tree_knots(yes))
        if at <= many:
            return (*knot[:-2], go(yes, at - 1), no)
        return (*knot[:-2], yes, go(no, at - 1 - many))
    return go(tree, at)


def ends(tree):
    return [at for at, knot in enumerate(plain.tree_knots(tree)) if knot[0] == "end"]


def some_inputs(draw, kinds, tree):
    offsets = [0, *[number for knot in plain.tree_knots(tree) if knot[0] == "row" for number in (knot[3], -knot[3])]]
    return [*chance.all_inputs(kinds, (-MILLION, -1, 0, 1, 3, MILLION)), *chance.near(draw, kinds, offsets, 120)]


class TreeOf(unittest.TestCase):
    def check(self, draw, kinds, program):
        tree = tree_of(kinds, program)
        kind = kind_of(kinds, program)
        self.assertTrue(plain.is_tree(kinds, kind, tree), (program, tree))
        for inputs in some_inputs(draw, kinds, tree):
            told = plain.value(program, inputs)
            found = tree_at(tree, inputs)
            self.assertEqual(found, told, (program, inputs))
            self.assertIs(type(found), type(told))
            self.assertEqual(plain.tree_value(tree, inputs), told, (program, inputs))
        self.assertIs(tree_holds(kinds, program, tree), True)
        return tree

    def test_every_word(self):
        for program, kind, text in plain.SAMPLES:
            self.check(chance.drawer(1), plain.KINDS, program)

    def test_drawn_programs(self):
        kinds_seen = set()
        for draw, kinds, program in drawn_programs(7, 250):
            self.check(draw, kinds, program)
            kinds_seen.add(kind_of(kinds, program))
        self.assertEqual(kinds_seen, {"num", "truth"})

    def test_six_comparisons_and_six_ifs(self):
        text = ("if atmost in 0 in 1 if atmost in 1 in 2 num 1 if atmost in 0 in 2 num 2 num 3 "
                "if atmost in 0 in 2 if atmost in 1 in 2 num 4 num 5 if atmost in 2 in 1 num 6 num 7")
        draw = chance.drawer(8)
        self.check(draw, ("num",) * 3, read(text))
        wide = read("least most in 0 plus 5 in 1 most least in 1 plus -5 in 2 least in 2 most in 0 num 7")
        self.check(draw, ("num",) * 3, wide)
        for kind in ("num", "truth"):
            for turn in range(40):
                program = chance.program(draw, ("num", "num", "truth"), kind, 24, far=2)
                self.check(draw, ("num", "num", "truth"), program)

    def test_without_inputs(self):
        for text in ("num 5", "yes", "no", "if no num 1 num 2", "atmost num 3 num 2", "most num 3 plus 9 num 2"):
            self.check(chance.drawer(1), (), read(text))

    def test_great_numbers(self):
        for text in ("atmost in 0 plus 1000 in 1", "least plus -1000 in 0 plus 1000 in 1",
                     "if atmost in 0 num -1000 num 1000 most in 0 in 1"):
            self.check(chance.drawer(1), ("num", "num"), read(text))

    def test_told_programs(self):
        program = ("in", 0)
        for turn in range(7):
            program = put(("if", ("atmost", ("in", 0), ("num", 5)), ("plus", 2, ("in", 0)), ("num", turn)), (program,))
        self.check(chance.drawer(1), ("num",), program)
        big = ("plus", 10 ** 30, ("least", ("in", 0), ("num", -10 ** 30)))
        self.check(chance.drawer(1), ("num",), big)

    def test_deep_programs(self):
        program = ("in", 0)
        for turn in range(20000):
            program = ("plus", 1, program)
        tree = tree_of(("num",), ("atmost", program, ("num", 20005)))
        self.assertEqual([tree_at(tree, (number,)) for number in (4, 5, 6)], [True, True, False])
        self.assertIs(tree_holds(("num",), ("atmost", program, ("num", 20005)), tree), True)

    def test_deep_trees(self):
        program = ("num", 0)
        for number in range(1500):
            program = ("if", ("atmost", ("in", 0), ("num", number)), ("num", number), program)
        tree = tree_of(("num",), program)
        for number in (-5, 0, 1, 749, 1499, 1500):
            self.assertEqual(tree_at(tree, (number,)), value(program, (number,)))
        deep = ("end", (0, 0))
        for number in range(5000):
            deep = ("row", 0, -1, -number, deep, ("end", (0, 0)))
        self.assertIs(tree_holds(("num",), ("in", 0), deep), True)
        self.assertEqual(tree_at(deep, (-4000,)), -4000)

    def test_asked_again_and_by_name(self):
        first = tree_of(("num", "num"), MOST)
        tree_of(("num", "truth"), TRUTH)
        self.assertEqual(tree_of(program=MOST, kinds=("num", "num")), first)
        self.assertEqual(tree_at(inputs=(3, 4), tree=first), 4)
        self.assertIs(tree_holds(tree=first, program=MOST, kinds=("num", "num")), True)


class TreeAt(unittest.TestCase):
    def test_rows(self):
        for i, j, c in [(0, 1, 0), (0, 1, 3), (1, 0, -3), (0, -1, 2), (-1, 1, -2), (0, 0, 0), (0, 0, -1), (-1, -1, 0)]:
            tree = ("row", i, j, c, ("end", True), ("end", False))
            for inputs in chance.all_inputs(("num", "num"), (-MILLION, -3, -2, 0, 1, 2, 3, MILLION)):
                self.assertIs(tree_at(tree, inputs), plain.number(inputs, i) <= plain.number(inputs, j) + c)

    def test_truths_and_ends(self):
        tree = ("truth", 1, ("end", (0, -7)), ("end", (-1, 9)))
        self.assertEqual(tree_at(tree, (MILLION, True)), MILLION - 7)
        self.assertEqual(tree_at(tree, (MILLION, False)), 9)
        self.assertEqual(tree_at(("end", (-1, 5)), ()), 5)
        self.assertIs(tree_at(("end", False), ()), False)
        self.assertIs(tree_at(TRUTH_TREE, (5, True)), True)
        self.assertIs(tree_at(TRUTH_TREE, (6, True)), False)


class TreeHolds(unittest.TestCase):
    def check(self, kinds, program, tree, told):
        self.assertIs(tree_holds(kinds, program, tree), told, (program, tree))

    def test_others_that_tell_the_same(self):
        kinds = ("num", "num", "truth")
        for tree in [
                MOST_TREE,
                ("row", 0, 1, -1, ("end", (1, 0)), ("end", (0, 0))),
                ("row", 1, 0, 0, ("end", (0, 0)), ("end", (1, 0))),
                ("row", 1, 0, -1, ("end", (0, 0)), ("end", (1, 0))),
                ("truth", 2, MOST_TREE, MOST_TREE),
                ("row", 0, -1, 1000, MOST_TREE, ("row", 1, 0, 0, ("end", (0, 0)), ("end", (1, 0)))),
                ("row", 0, 1, 0, ("row", 1, 0, 0, ("end", (0, 0)), ("end", (1, 0))), ("end", (0, 0))),
                ("row", 0, 1, 5, ("row", 1, 0, -5, ("end", (0, 0)), MOST_TREE), ("end", (0, 0)))]:
            self.check(kinds, MOST, tree, True)
        self.check(kinds, MOST, ("row", 0, 1, 5, ("row", 1, 0, -5, ("end", (1, 0)), MOST_TREE), ("end", (0, 0))), False)

    def test_ends_that_are_the_same_there(self):
        # x of 0 is 3 in the one branch, so these ends tell the same there.
        program = read("if both atmost in 0 num 3 atmost num 3 in 0 plus 1 in 0 in 1")
        for end in ((0, 1), (-1, 4)):
            for last in ((1, 0), (-1, 0), (1, 1)):
                tree = ("row", 0, -1, 3, ("row", -1, 0, -3, ("end", end), ("end", (1, 0))), ("end", last))
                self.check(("num", "num"), program, tree, last == (1, 0))
        self.check(("num", "num"), program,
                   ("row", 0, -1, 3, ("row", -1, 0, -3, ("end", (0, 2)), ("end", (1, 0))), ("end", (1, 0))), False)
        self.check(("num", "num"), program, ("end", (1, 0)), False)

    def test_ends_that_no_input_leads_to(self):
        for end in ((0, 0), (1, 999), (-1, -1000)):
            wrong = ("end", end)
            for tree in [
                    ("row", 0, 0, 0, MOST_TREE, wrong), ("row", 0, 0, -1, wrong, MOST_TREE),
                    ("row", -1, -1, 5, MOST_TREE, wrong), ("row", 1, 1, -1000, wrong, MOST_TREE),
                    ("row", 0, 1, 0, ("row", 0, 1, 1, ("end", (1, 0)), wrong), ("end", (0, 0))),
                    ("row", 0, 1, 0, ("end", (1, 0)), ("row", 1, 0, -1, ("end", (0, 0)), wrong)),
                    ("truth", 2, ("truth", 2, MOST_TREE, wrong), ("truth", 2, wrong, MOST_TREE))]:
                self.check(("num", "num", "truth"), MOST, tree, True)

    def test_ends_that_one_input_leads_to(self):
        for number in (-1000, -1, 0, 7, 1000):
            tree = ("row", 0, -1, number, ("row", -1, 0, -number, ("end", (-1, 5)), ("end", (0, 0))), ("end", (0, 0)))
            self.check(("num",), ("in", 0), tree, number == 5)
            there = ("if", ("both", ("atmost", ("in", 0), ("num", number)), ("atmost", ("num", number), ("in", 0))),
                     ("num", 5), ("in", 0))
            self.check(("num",), there, tree, True)
            self.check(("num",), there, ("end", (0, 0)), number == 5)

    def test_one_end_otherwise(self):
        for draw, kinds, program in drawn_programs(9, 60):
            tree = tree_of(kinds, program)
            for at in ends(tree)[:12]:
                end = plain.tree_knots(tree)[at][1]
                if isinstance(end, bool):
                    wrong = ("end", not end)
                else:
                    wrong = ("end", (end[0], end[1] + draw.choice((-1, 1, 500))))
                # The told trees have no end to which no input leads.
                self.check(kinds, program, with_knot(tree, at, wrong), False)

    def test_places_that_are_not_there(self):
        kinds = ("num", "num", "truth")
        for wrong in (2, 3, 4, -2, -3, -1000, 1000):
            for tree in [
                    ("row", wrong, 1, 0, ("end", (1, 0)), ("end", (0, 0))),
                    ("row", 0, wrong, 0, ("end", (1, 0)), ("end", (0, 0))),
                    ("row", wrong, wrong, 0, MOST_TREE, MOST_TREE),
                    ("row", 0, 1, 0, ("end", (wrong, 0)), ("end", (0, 0))),
                    ("row", 0, 1, 0, ("end", (1, 0)), ("end", (wrong, 0))),
                    ("end", (wrong, 0)),
                    ("row", 0, 0, 0, MOST_TREE, ("end", (wrong, 0))),
                    ("row", 0, 0, 0, MOST_TREE, ("row", wrong, 0, 0, MOST_TREE, MOST_TREE)),
                    ("row", 0, 0, 0, MOST_TREE, ("row", 0, wrong, 0, MOST_TREE, MOST_TREE)),
                    ("row", 0, 0, -1, ("row", 0, 1, 0, ("end", (wrong, 0)), MOST_TREE), MOST_TREE)]:
                self.check(kinds, MOST, tree, False)
        for wrong in (0, 1, 3, -1, -2, 1000):
            for tree in [
                    ("truth", wrong, MOST_TREE, MOST_TREE),
                    ("row", 0, 0, 0, MOST_TREE, ("truth", wrong, MOST_TREE, MOST_TREE)),
                    ("truth", 2, MOST_TREE, ("truth", wrong, MOST_TREE, MOST_TREE))]:
                self.check(kinds, MOST, tree, False)
        self.check((), ("num", 5), ("end", (-1, 5)), True)
        self.check((), ("num", 5), ("end", (0, 5)), False)
        self.check((), ("num", 5), ("end", (-2, 5)), False)
        self.check((), ("yes",), ("truth", 0, ("end", True), ("end", True)), False)
        self.check((), ("yes",), ("row", -1, -1, 0, ("end", True), ("end", False)), True)

    def test_ends_of_the_other_kind(self):
        for wrong in (True, False):
            self.check(("num", "num"), MOST, ("end", wrong), False)
            self.check(("num", "num"), MOST, ("row", 0, 1, 0, ("end", (1, 0)), ("end", wrong)), False)
            self.check(("num", "num"), MOST, ("row", 0, 0, 0, MOST_TREE, ("end", wrong)), False)
            self.check((), ("num", int(wrong)), ("end", wrong), False)
        for wrong in ((0, 0), (-1, 1), (-1, 0)):
            self.check(("num", "truth"), TRUTH, ("end", wrong), False)
            self.check(("num", "truth"), TRUTH, ("truth", 1, TRUTH_TREE, ("end", wrong)), False)
            self.check(("num", "truth"), TRUTH, ("truth", 1, TRUTH_TREE, ("truth", 1, ("end", wrong), TRUTH_TREE)),
                       False)
            self.check(("num", "truth"), ("yes",), ("end", wrong), False)
        self.check(("num", "truth"), TRUTH, TRUTH_TREE, True)

    def test_trees_of_other_programs(self):
        told = []
        for draw, kinds, program in drawn_programs(10, 150):
            kind = kind_of(kinds, program)
            other = chance.program(draw, kinds, kind, draw.randint(1, 10), far=2)
            tree = tree_of(kinds, other)
            found = tree_holds(kinds, program, tree)
            told.append(found)
            unlike = [inputs for inputs in some_inputs(draw, kinds, tree)
                      if plain.value(program, inputs) != plain.tree_value(tree, inputs)]
            if unlike:
                self.assertIs(found, False, (program, tree))
            swapped = ("truth", "num")[kind == "truth"]
            self.check(kinds, program, tree_of(kinds, chance.program(draw, kinds, swapped, 5)), False)
        self.assertIn(True, told)
        self.assertIn(False, told)

    def test_small_trees_by_looking_at_inputs(self):
        # With numbers this small whatever differs does so at inputs this near to 0.
        draw = chance.drawer(11)
        kinds = ("num", "num", "truth")
        inputs = chance.all_inputs(kinds, range(-7, 8))
        told = []
        for turn in range(150):
            kind = draw.choice(("num", "truth"))
            program = chance.program(draw, kinds, kind, draw.randint(1, 9), far=1, compares=2)
            tree = tree_of(kinds, chance.program(draw, kinds, kind, draw.randint(1, 9), far=1, compares=2))
            same = all(plain.value(program, one) == plain.tree_value(tree, one) for one in inputs)
            self.check(kinds, program, tree, same)
            told.append(same)
        self.assertGreater(told.count(True), 5)

    def test_trees_of_400_knots(self):
        tree = ("end", (0, 0))
        for number in range(199):
            tree = ("row", number % 2, -1, number * 5 - 500, tree, ("end", (0, 0)))
        self.check(("num", "num"), ("in", 0), tree, True)
        self.check(("num", "num"), ("in", 1), tree, False)
        wrong = with_knot(tree, len(plain.tree_knots(tree)) - 1, ("end", (1, 0)))
        self.check(("num", "num"), ("in", 0), wrong, False)


if __name__ == "__main__":
    unittest.main()
