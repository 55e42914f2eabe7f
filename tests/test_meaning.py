"""Points 6 and 10: what programs tell, and of point 2 what it says of leastmaker.meaning."""

import unittest

from leastmaker.meaning import value
from leastmaker.programs import knots, put
from tests import chance, plain

MILLION = 10 ** 6
NUMBERS = (-MILLION, -MILLION + 1, -1000, -2, -1, 0, 1, 2, 3, 1000, MILLION - 1, MILLION)
TRUTHS = (True, False)


def two(word):
    return (word, ("in", 0), ("in", 1))


class Value(unittest.TestCase):
    def check(self, program, inputs, told):
        found = value(program, inputs)
        self.assertEqual(found, told, (program, inputs))
        self.assertIs(type(found), type(told), (program, inputs))

    def test_leaves(self):
        self.check(("yes",), (), True)
        self.check(("no",), (), False)
        for number in NUMBERS:
            self.check(("num", number), (), number)
            self.check(("in", 0), (number,), number)
            self.check(("in", 1), (True, number, 7), number)
        for truth in TRUTHS:
            self.check(("in", 0), (truth,), truth)
            self.check(("in", 2), (1, 2, truth), truth)

    def test_numbers(self):
        for one in NUMBERS:
            for other in NUMBERS:
                self.check(("plus", one, ("in", 0)), (other,), one + other)
                self.check(two("least"), (one, other), one if one < other else other)
                self.check(two("most"), (one, other), one if one > other else other)
                self.check(two("atmost"), (one, other), one <= other)
                self.check(("atmost", ("plus", 1, ("in", 0)), ("in", 1)), (one, other), one < other)

    def test_where_both_are_alike(self):
        for number in NUMBERS:
            self.check(two("least"), (number, number), number)
            self.check(two("most"), (number, number), number)
            self.check(two("atmost"), (number, number), True)
            self.check(("atmost", ("in", 0), ("in", 0)), (number,), True)
            self.check(("atmost", ("plus", 1, ("in", 0)), ("in", 0)), (number,), False)

    def test_truths(self):
        for one in TRUTHS:
            self.check(("not", ("in", 0)), (one,), not one)
            for other in TRUTHS:
                self.check(two("both"), (one, other), one and other)
                self.check(two("either"), (one, other), one or other)
                for third in TRUTHS:
                    self.check(("if", ("in", 0), ("in", 1), ("in", 2)), (one, other, third), other if one else third)

    def test_if_of_numbers(self):
        for truth in TRUTHS:
            for one, other in ((1, 2), (0, 1), (1, 0), (-MILLION, MILLION), (5, 5)):
                self.check(("if", ("in", 2), ("in", 0), ("in", 1)), (one, other, truth), one if truth else other)

    def test_numbers_that_look_like_truths(self):
        # 0 and 1 are equal to Python's truths, but they are told as numbers, and truths as truths.
        self.check(two("least"), (0, 1), 0)
        self.check(two("most"), (0, 1), 1)
        self.check(("if", ("yes",), ("num", 1), ("num", 0)), (), 1)
        self.check(("if", ("no",), ("yes",), ("no",)), (), False)

    def test_samples(self):
        for program, kind, text in plain.SAMPLES:
            for inputs in chance.all_inputs(plain.KINDS, (-MILLION, -7, 0, 4, 5, 6, MILLION)):
                self.check(program, inputs, plain.value(program, inputs))
                self.assertIs(type(value(program, inputs)), {"num": int, "truth": bool}[kind])

    def test_programs_of_24_knots(self):
        draw = chance.drawer(1)
        for turn in range(300):
            kinds = draw.choice([("num",) * 3, ("num", "truth", "num"), ("truth", "num"), ("num",), ()])
            kind = draw.choice(("num", "truth"))
            program = chance.program(draw, kinds, kind, 24, far=draw.choice((2, 1000)))
            for far in (1, 4, 1000, MILLION):
                inputs = chance.inputs(draw, kinds, far)
                self.check(program, inputs, plain.value(program, inputs))

    def test_ten_deep(self):
        program = ("in", 0)
        for number in range(1, 10):
            program = ("if", ("in", 1), ("plus", number, program), ("num", -number))
        self.check(program, (100, True), 145)
        self.check(program, (100, False), -9)
        program = ("in", 0)
        for number in range(1, 11):
            program = (("least", "most")[number % 2], ("num", number), ("plus", -1, program))
        self.check(program, (MILLION,), plain.value(program, (MILLION,)))
        self.check(program, (-MILLION,), plain.value(program, (-MILLION,)))

    def test_without_inputs(self):
        self.check(("plus", 2, ("num", 3)), (), 5)
        self.check(("both", ("yes",), ("not", ("no",))), (), True)

    def test_told_programs(self):
        program = ("in", 0)
        for turn in range(8):
            program = put(("if", ("atmost", ("in", 0), ("num", 3)), ("plus", 2, ("in", 0)), ("num", turn)), (program,))
        self.assertGreater(len(knots(program)), 1000)
        for number in (-MILLION, -20, -3, 0, 1, 2, 3, 4, 5, MILLION):
            self.check(program, (number,), plain.value(program, (number,)))

    def test_deep_programs(self):
        program = ("in", 0)
        for turn in range(20000):
            program = ("plus", 3, program)
        self.check(program, (-1,), 59999)

    def test_told_numbers_of_any_size(self):
        self.check(("plus", 10 ** 30, ("in", 0)), (-1,), 10 ** 30 - 1)
        self.check(two("most"), (-10 ** 30, -10 ** 29), -10 ** 29)

    def test_by_name_and_asked_again(self):
        program, inputs = ("if", ("in", 1), ("least", ("in", 0), ("num", 4)), ("num", 0)), (9, True)
        self.assertEqual(value(inputs=inputs, program=program), 4)
        self.check(program, (9, False), 0)
        self.check(("not", ("in", 1)), inputs, False)
        self.check(program, inputs, 4)
        self.assertEqual((program, inputs),
                         (("if", ("in", 1), ("least", ("in", 0), ("num", 4)), ("num", 0)), (9, True)))


if __name__ == "__main__":
    unittest.main()
