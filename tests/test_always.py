"""Points 15 and 16, of point 3 the first promise, and of point 2 what it says of leastmaker.always."""

import unittest

from leastmaker.always import alike, always, same, sure_holds
from leastmaker.programs import kind_of
from leastmaker.texts import read
from leastmaker.trees import tree_of
from tests import chance, plain

MILLION = 10 ** 6
KINDS = ("num", "num", "truth")

# Truth programs by KINDS that are so at every input.
SURE = [
    "yes",
    "not no",
    "atmost in 0 in 0",
    "atmost in 0 plus 3 in 0",
    "either atmost in 0 in 1 atmost in 1 in 0",
    "either atmost in 0 in 1 atmost plus 1 in 1 in 0",
    "either in 2 not in 2",
    "not both in 2 not in 2",
    "if in 2 atmost least in 0 in 1 in 0 atmost in 0 most in 0 in 1",
    "atmost least in 0 in 1 most in 1 in 0",
    "either not atmost in 0 num 1000 atmost in 0 num 1001",
    "either atmost in 0 num 1000 atmost num -1000 in 0",
    "either not both atmost in 0 plus -3 in 1 atmost in 1 plus 2 in 0 no",
    "either atmost in 0 plus 6 in 1 atmost plus 6 in 1 in 0",
    "if atmost in 0 in 1 if atmost in 1 in 0 both atmost in 0 in 1 atmost in 1 in 0 yes yes",
]
# With some inputs at which each isn't so.
FAILS = [
    ("no", (0, 0, True)),
    ("atmost plus 1 in 0 in 0", (0, 0, True)),
    ("atmost in 0 in 1", (1, 0, True)),
    ("in 2", (0, 0, False)),
    ("not in 2", (0, 0, True)),
    ("either in 2 atmost in 0 num 5", (6, 0, False)),
    # But at great ones.
    ("atmost in 0 num 1000", (1001, 0, True)),
    ("either atmost num -1000 in 0 in 2", (-1001, 0, False)),
    ("either atmost in 0 plus 1000 in 1 atmost in 0 num 1000", (1001, 0, True)),
    ("either atmost in 0 num 1000 either atmost in 0 plus 1000 in 1 atmost in 1 num 1000", (2002, 1001, True)),
    # But at one input, or at one of its nums.
    ("not both atmost in 0 num 777 atmost num 777 in 0", (777, 0, True)),
    ("either either atmost plus 1 in 0 num 777 atmost num 778 in 0 either atmost in 1 num -1000 "
     "either atmost num -998 in 1 in 2", (777, -999, False)),
    ("either atmost in 0 plus 5 in 1 atmost plus 7 in 1 in 0", (6, 0, True)),
]


def inputs_about(draw, kinds, program):
    numbers = [knot[1] for knot in plain.knots(program) if knot[0] in ("num", "plus")]
    return [*chance.all_inputs(kinds, (-MILLION, -2, -1, 0, 1, 2, MILLION)),
            *chance.near(draw, kinds, [0, *numbers, *[-number for number in numbers]], 100)]


class Always(unittest.TestCase):
    def check(self, kinds, program):
        """What is told is right; the word is told on."""
        told = always(kinds, program)
        self.assertIs(type(told), tuple)
        self.assertEqual(len(told), 2)
        word, paper = told
        if word == "sure":
            self.assertTrue(plain.is_tree(kinds, "truth", paper))
            self.assertIs(sure_holds(kinds, program, paper), True)
            for inputs in inputs_about(chance.drawer(1), kinds, program):
                self.assertIs(plain.value(program, inputs), True, (program, inputs))
                self.assertIs(plain.tree_value(paper, inputs), True)
        else:
            self.assertEqual(word, "fails")
            self.check_inputs(kinds, paper)
            self.assertIs(plain.value(program, paper), False, (program, paper))
        return word

    def check_inputs(self, kinds, inputs):
        self.assertIs(type(inputs), tuple)
        self.assertEqual([type(thing) for thing in inputs], [{"num": int, "truth": bool}[kind] for kind in kinds])

    def test_so_everywhere(self):
        for text in SURE:
            self.assertEqual(self.check(KINDS, read(text)), "sure", text)

    def test_not_so_somewhere(self):
        for text, inputs in FAILS:
            self.assertIs(plain.value(read(text), inputs), False, text)
            self.assertEqual(self.check(KINDS, read(text)), "fails", text)

    def test_but_at_one_input(self):
        self.assertEqual(always(KINDS, read(FAILS[11][0])), ("fails", (777, -999, False)))
        for number in (-MILLION, -1000, 0, 5, MILLION):
            there = alike("num", ("in", 0), ("num", number))
            self.assertEqual(always(("num",), ("not", there)), ("fails", (number,)))

    def test_without_inputs(self):
        self.assertEqual(self.check((), read("yes")), "sure")
        self.assertEqual(self.check((), read("atmost num 2 num 2")), "sure")
        self.assertEqual(always((), read("atmost num 3 num 2")), ("fails", ()))
        self.assertEqual(always((), read("no")), ("fails", ()))

    def test_drawn_programs(self):
        draw = chance.drawer(12)
        words = []
        for turn in range(300):
            kinds = draw.choice(chance.KINDS)
            program = chance.program(draw, kinds, "truth", draw.randint(1, 24), far=draw.choice((1, 3, 1000)))
            words.append(self.check(kinds, program))
            words.append(self.check(kinds, ("either", program, ("not", program))))
            self.assertEqual(words[-1], "sure")
            self.assertEqual(self.check(kinds, ("both", program, ("not", program))), "fails")
        self.assertGreater(words.count("fails"), 100)

    def test_small_programs_by_looking_at_inputs(self):
        # With numbers this small whatever isn't so everywhere isn't so at some inputs this near to 0.
        draw = chance.drawer(13)
        kinds = ("num", "num")
        words = []
        for turn in range(500):
            program = chance.program(draw, kinds, "truth", draw.randint(3, 14), far=1, compares=3)
            word = self.check(kinds, program)
            everywhere = all(plain.value(program, inputs) for inputs in chance.all_inputs(kinds, range(-9, 10)))
            self.assertEqual(word, "sure" if everywhere else "fails", program)
            words.append(word)
        self.assertGreater(words.count("sure"), 50)
        self.assertGreater(words.count("fails"), 50)

    def test_asked_again_and_by_name(self):
        first = always(KINDS, read(SURE[4]))
        always(KINDS, read(FAILS[3][0]))
        self.assertEqual(always(program=read(SURE[4]), kinds=KINDS), first)
        self.assertIs(sure_holds(tree=first[1], program=read(SURE[4]), kinds=KINDS), True)


class SureHolds(unittest.TestCase):
    def check(self, kinds, program, tree, told):
        self.assertIs(sure_holds(kinds, program, tree), told, (program, tree))

    def test_the_tree_that_is_one_end(self):
        for text in SURE:
            self.check(KINDS, read(text), ("end", True), True)
            self.check(KINDS, read(text), ("end", False), False)
        for text, inputs in FAILS:
            self.check(KINDS, read(text), ("end", True), False)
            self.check(KINDS, read(text), ("end", False), False)
            self.check(KINDS, read(text), tree_of(KINDS, read(text)), False)
            self.check(KINDS, read(text), always(KINDS, read(SURE[4]))[1], False)

    def test_ends_that_are_no(self):
        program = read("either atmost in 0 in 1 atmost in 1 in 0")
        yes, no = ("end", True), ("end", False)
        self.check(KINDS, program, ("row", 0, 1, 0, yes, ("row", 1, 0, 0, yes, no)), True)
        self.check(KINDS, program, ("row", 0, 1, 0, yes, ("row", 1, 0, -1, yes, no)), True)
        self.check(KINDS, program, ("row", 0, 1, 0, yes, ("row", 1, 0, -2, yes, no)), False)
        self.check(KINDS, program, ("row", 0, 1, 0, yes, ("row", 1, 0, 0, no, yes)), False)
        self.check(KINDS, program, ("row", 0, 1, 0, no, yes), False)
        self.check(KINDS, program, ("truth", 2, yes, no), False)
        self.check(KINDS, program, ("truth", 2, ("truth", 2, yes, no), yes), True)
        self.check(KINDS, program, ("row", 0, 0, 0, yes, no), True)
        self.check(KINDS, program, ("row", 0, 0, -1, yes, no), False)

    def test_trees_that_are_none_by_the_kinds(self):
        yes, no = ("end", True), ("end", False)
        for tree in (("end", (0, 1)), ("end", (-1, 1)), ("row", 0, 2, 0, yes, yes), ("truth", 0, yes, yes),
                     ("row", 0, 0, 0, yes, ("end", (-1, 0))), ("row", 0, 0, 0, yes, ("truth", 1, yes, no)),
                     ("row", -2, 0, 0, yes, yes), ("truth", 3, yes, yes)):
            self.check(KINDS, ("yes",), tree, False)
        self.check((), ("yes",), yes, True)
        self.check((), ("no",), yes, False)
        self.check((), ("no",), no, False)

    def test_of_another_program(self):
        for one in SURE:
            for other in SURE:
                self.check(KINDS, read(one), always(KINDS, read(other))[1], True)
        weak = read("atmost in 0 num 0")
        self.check(KINDS, weak, tree_of(KINDS, weak), False)
        self.check(KINDS, weak, tree_of(KINDS, ("yes",)), False)
        self.check(KINDS, ("yes",), tree_of(KINDS, weak), False)


class Alike(unittest.TestCase):
    def test_as_written(self):
        for one, other in ((("in", 0), ("in", 1)), (("num", 3), ("plus", 1, ("in", 0)))):
            self.assertEqual(alike("num", one, other), ("both", ("atmost", one, other), ("atmost", other, one)))
        for one, other in ((("in", 0), ("in", 1)), (("yes",), ("not", ("in", 0)))):
            self.assertEqual(alike("truth", one, other),
                             ("either", ("both", one, other), ("both", ("not", one), ("not", other))))
        self.assertEqual(alike(other=("in", 1), one=("in", 0), kind="num"), alike("num", ("in", 0), ("in", 1)))


class Same(unittest.TestCase):
    def check(self, kinds, one, other):
        word, paper = same(kinds, one, other)
        kind = kind_of(kinds, one)
        if word == "same":
            self.assertIs(sure_holds(kinds, alike(kind, one, other), paper), True)
        else:
            self.assertEqual(word, "unlike")
            self.assertIs(type(paper), tuple)
            self.assertEqual(len(paper), len(kinds))
            self.assertNotEqual(plain.value(one, paper), plain.value(other, paper))
        return word

    def test_the_same_program(self):
        for program, kind, text in plain.SAMPLES:
            self.assertEqual(self.check(plain.KINDS, program, program), "same")
        draw = chance.drawer(14)
        for turn in range(60):
            kinds = draw.choice(chance.KINDS)
            program = chance.program(draw, kinds, draw.choice(("num", "truth")), 24)
            self.assertEqual(self.check(kinds, program, program), "same")

    def test_written_otherwise(self):
        for one, other in [
                ("most in 0 in 1", "if atmost in 0 in 1 in 1 in 0"),
                ("most in 0 in 1", "most in 1 in 0"),
                ("least in 0 least in 1 num 3", "least least num 3 in 1 in 0"),
                ("plus 2 most in 0 in 1", "most plus 2 in 1 plus 2 in 0"),
                ("plus 1 plus 1 in 0", "plus 2 in 0"),
                ("if in 2 in 0 in 0", "in 0"),
                ("least in 0 most in 0 in 1", "in 0"),
                ("least in 0 most in 1 num 4", "most least in 0 in 1 least num 4 in 0"),
                ("not atmost in 0 in 1", "atmost plus 1 in 1 in 0"),
                ("not both in 2 atmost in 0 in 1", "either not in 2 not atmost in 0 in 1"),
                ("if in 2 atmost in 0 in 1 no", "both atmost in 0 in 1 in 2"),
                ("yes", "atmost in 0 in 0"),
                ("if atmost in 0 num 3 if atmost num 3 in 0 num 3 in 0 in 0", "in 0")]:
            self.assertEqual(self.check(KINDS, read(one), read(other)), "same", (one, other))

    def test_unlike_at_one_input_alone(self):
        for number in (-1000, 0, 3, 1000):
            there = ("both", ("atmost", ("in", 0), ("num", number)), ("atmost", ("num", number), ("in", 0)))
            one = ("if", there, ("num", 7), ("in", 0))
            self.assertEqual(same(("num",), one, ("in", 0)), ("unlike", (number,)))
            self.assertEqual(same(("num",), ("in", 0), one), ("unlike", (number,)))
            self.assertEqual(same(("num",), there, ("no",)), ("unlike", (number,)))
            both = ("both", there, ("both", ("in", 2), alike("num", ("in", 1), ("num", -number))))
            self.assertEqual(same(("num", "num", "truth"), both, ("no",)), ("unlike", (number, -number, True)))

    def test_unlike_ones(self):
        for one, other in [("in 0", "in 1"), ("num 0", "num 1"), ("yes", "no"), ("in 2", "yes"),
                           ("in 0", "plus 1 in 0"),
                           ("least in 0 in 1", "most in 0 in 1"), ("atmost in 0 in 1", "atmost in 1 in 0"),
                           ("least in 0 num 1000", "in 0"), ("most in 0 num -1000", "in 0")]:
            self.assertEqual(self.check(KINDS, read(one), read(other)), "unlike", (one, other))

    def test_without_inputs(self):
        self.assertEqual(self.check((), read("num 3"), read("plus 1 num 2")), "same")
        self.assertEqual(same((), read("num 3"), read("num 4")), ("unlike", ()))

    def test_drawn_programs(self):
        draw = chance.drawer(15)
        words = []
        for turn in range(300):
            kinds, kind = draw.choice(chance.KINDS), draw.choice(("num", "truth"))
            one, other = [chance.program(draw, kinds, kind, draw.randint(1, 8), far=1) for turn in range(2)]
            words.append(self.check(kinds, one, other))
            if words[-1] == "same":
                for inputs in inputs_about(draw, kinds, one):
                    self.assertEqual(plain.value(one, inputs), plain.value(other, inputs))
            big, great = [chance.program(draw, kinds, kind, 24, far=5) for turn in range(2)]
            self.assertEqual(self.check(kinds, big, great), self.check(kinds, great, big))
        self.assertGreater(words.count("same"), 20)
        self.assertGreater(words.count("unlike"), 100)

    def test_by_name(self):
        self.assertEqual(same(other=("in", 0), one=("in", 0), kinds=("num",))[0], "same")


if __name__ == "__main__":
    unittest.main()
