"""Points 9 and 10: stocks, weights, order, and of point 2 what it says of leastmaker.stocks."""

import itertools
import unittest

from leastmaker.errors import NoStock
from leastmaker.stocks import STOCK, comes_first, look_stock, weight
from tests import chance, plain

WORDS = ("yes", "no", "least", "most", "atmost", "not", "both", "either", "if")
FULL = (
    ((7, 9), (-1000, 2), (0, 3)),
    ((-3, 4), (1000, 1)),
    (("if", 1), ("not", 2), ("both", 3), ("atmost", 2), ("yes", 9), ("most", 1)),
)
# Each word, with unlike weights; the bounds have fewer words, but nothing refuses more.
ALL = (
    ((1, 2), (0, 3)), ((2, 4), (-1, 5)),
    (("either", 6), ("both", 7), ("not", 8), ("if", 9), ("atmost", 1), ("most", 2), ("least", 3), ("no", 4),
     ("yes", 5)),
)


class LookStock(unittest.TestCase):
    def check_refused(self, stock, word, at):
        with self.subTest(stock=stock), self.assertRaises(NoStock) as caught:
            look_stock(stock)
        self.assertEqual((caught.exception.word, caught.exception.at), (word, at))

    def test_the_default(self):
        self.assertEqual(STOCK, (
            ((0, 1), (1, 1)), ((1, 1), (-1, 1)), (("least", 1), ("most", 1), ("atmost", 1), ("if", 1))))

    def test_stocks(self):
        for stock in (STOCK, FULL, ALL, ((), (), ()), (((5, 9),), (), ()), ((), ((-7, 1),), ()),
                      ((), (), (("no", 1),)), (((0, 1), (1, 1)), ((1, 1), (-1, 1)), ())):
            self.assertIs(look_stock(stock), True)
            self.assertIs(look_stock(stock=stock), True)
        for word in WORDS:
            self.assertIs(look_stock(((), (), ((word, 9),))), True)

    def test_the_same_in_unlike_tuples(self):
        self.assertIs(look_stock((((1, 1), (-1, 2)), ((1, 3), (-1, 4)), ())), True)

    def test_form_of_the_whole(self):
        wrong = [
            None, True, False, 0, 3, "", "abc", (), ((),), ((), ()), ((), (), (), ()), (*STOCK, ()), STOCK[:2],
            (None, (), ()), ((), None, ()), ((), (), None), ("", (), ()), ((), "", ()), ((), (), ""),
            (0, (), ()), ((), True, ()), ((), (), 5), ("num", "step", "word"), ("ab", "cd", "ef"),
        ]
        for stock in wrong:
            self.check_refused(stock, "form", 0)

    def test_form_of_a_pair(self):
        no_pairs = [
            None, True, 5, "", "ab", "if", (), (1,), ("if",), (1, 1, 1), ("if", 1, 1), ((), ()), (None, 1), (True, 1),
            (False, 1), ((1,), 1), (1, None), (1, True), (1, False), (1, "1"), (1, (1,)), ("if", None), ("if", True),
            ("if", "1"), (("if",), 1), ("1", "1"),
        ]
        for thing in no_pairs:
            for at in range(3):
                parts = [STOCK[0], STOCK[1], STOCK[2]]
                parts[at] = (thing,)
                self.check_refused(tuple(parts), "form", 0)
                parts[at] = (*STOCK[at], thing)
                self.check_refused(tuple(parts), "form", 0)
                parts[at] = (thing, *STOCK[at])
                self.check_refused(tuple(parts), "form", 0)
        self.check_refused(((("if", 1),), (), ()), "form", 0)
        self.check_refused(((), (("if", 1),), ()), "form", 0)
        self.check_refused(((), (), ((1, 1),)), "form", 0)

    def test_one_that_stood_ahead(self):
        self.check_refused((((4, 1), (5, 1), (4, 1)), (), ()), "number", 2)
        self.check_refused((((4, 1), (4, 2), (5, 1)), (), ()), "number", 1)
        self.check_refused(((), ((4, 1), (4, 7)), ()), "step", 1)
        self.check_refused(((), (), (("if", 1), ("no", 1), ("if", 2), ("no", 1))), "word", 2)
        self.check_refused(((), (), (("if", 1), ("no", 1), ("yes", 2), ("no", 3))), "word", 3)

    def test_weights_below_one(self):
        for load in (0, -1, -9, -10 ** 30):
            self.check_refused((((4, load),), (), ()), "number", 0)
            self.check_refused((((4, 1), (5, load)), (), ()), "number", 1)
            self.check_refused(((), ((4, 1), (5, load), (6, load)), ()), "step", 1)
            self.check_refused(((), (), (("if", load),)), "word", 0)

    def test_a_step_of_nought(self):
        self.check_refused(((), ((0, 1),), ()), "step", 0)
        self.check_refused(((), ((1, 1), (-1, 1), (0, 1)), ()), "step", 2)
        self.assertIs(look_stock((((0, 1),), (), ())), True)

    def test_words_of_none_of_these(self):
        for word in ("in", "num", "plus", "too", "", "If", "if ", "1", "number"):
            self.check_refused(((), (), ((word, 1),)), "word", 0)
            self.check_refused(((), (), (("if", 1), ("not", 1), (word, 1))), "word", 2)

    def test_several_at_once(self):
        bad_number, bad_step, bad_word = ((1, 1), (2, 0)), ((1, 1), (2, 1), (0, 1)), (("too", 1),)
        self.check_refused((bad_number, bad_step, bad_word), "number", 1)
        self.check_refused(((), bad_step, bad_word), "step", 2)
        self.check_refused((((3, 1),), (), bad_word), "word", 0)
        self.check_refused((bad_number, bad_step, (("if", True),)), "form", 0)
        self.check_refused((bad_number, bad_step, bad_word, ()), "form", 0)
        self.check_refused((bad_number, None, bad_word), "form", 0)
        self.check_refused((((1, 1), (1, 1), (2, 0)), (), ()), "number", 1)
        self.check_refused((((1, 1), (2, 0), (1, 1)), (), ()), "number", 1)
        self.check_refused(((), ((0, 0), (0, 0)), ()), "step", 0)
        self.check_refused(((), (), (("if", 1), ("if", 0), ("too", 1))), "word", 1)

    def test_deep_tuples(self):
        deep = ()
        for turn in range(20000):
            deep = (deep,)
        for stock in (deep, (deep, deep, deep), (((1, deep),), (), ()), ((), (), ((deep, 1),))):
            with self.assertRaises(NoStock) as caught:
                look_stock(stock)
            self.assertEqual((caught.exception.word, caught.exception.at), ("form", 0))

    def test_asked_again(self):
        self.check_refused(((), ((0, 1),), ()), "step", 0)
        self.assertIs(look_stock(FULL), True)
        self.check_refused(((), ((0, 1),), ()), "step", 0)


class Weight(unittest.TestCase):
    def test_each_word(self):
        number, truth = ("in", 0), ("in", 1)
        for program, told in [
                (number, 1), (truth, 1), (("num", 1), 2), (("num", 0), 3), (("plus", 2, number), 5),
                (("plus", -1, number), 6), (("either", truth, truth), 8), (("both", truth, truth), 9),
                (("not", truth), 9), (("if", truth, number, number), 12), (("atmost", number, number), 3),
                (("most", number, number), 4), (("least", number, number), 5), (("no",), 4), (("yes",), 5),
                (("in", 2), 1), (("plus", 2, ("plus", 2, ("num", 0))), 11)]:
            self.assertEqual(weight(program, stock=ALL), told, program)

    def test_what_the_stock_lacks(self):
        truth = ("atmost", ("in", 0), ("num", 0))
        for lacks in (("num", 2), ("num", -1), ("plus", 2, ("in", 0)), ("plus", 0, ("in", 0)),
                      ("plus", 1, ("num", 5))):
            self.assertIsNone(weight(lacks), lacks)
            self.assertIsNone(weight(("plus", 1, lacks)))
            self.assertIsNone(weight(("least", lacks, ("in", 0))))
            self.assertIsNone(weight(("most", ("in", 0), lacks)))
            self.assertIsNone(weight(("if", truth, ("in", 0), ("least", ("in", 0), lacks))))
            self.assertIsNone(weight(("if", ("atmost", lacks, ("in", 0)), ("in", 0), ("num", 1))))
        for lacks in (("yes",), ("no",), ("not", truth), ("both", truth, truth), ("either", truth, truth)):
            self.assertIsNone(weight(lacks), lacks)
            self.assertIsNone(weight(("if", lacks, ("in", 0), ("in", 0))))
        self.assertIsNone(weight(("num", 0), stock=((), (), ())))
        self.assertEqual(weight(("in", 0), stock=((), (), ())), 1)

    def test_numbers_and_steps_are_apart(self):
        stock = (((3, 2),), ((4, 5),), ())
        self.assertEqual(weight(("plus", 4, ("num", 3)), stock=stock), 7)
        self.assertIsNone(weight(("plus", 3, ("num", 3)), stock=stock))
        self.assertIsNone(weight(("num", 4), stock=stock))

    def test_the_default_stock(self):
        program = ("if", ("atmost", ("in", 0), ("num", 0)), ("plus", -1, ("in", 1)), ("least", ("num", 1), ("in", 0)))
        self.assertEqual(weight(program), 9)
        self.assertEqual(weight(program=program), 9)
        self.assertEqual(weight(program, stock=STOCK), 9)
        with self.assertRaises(TypeError):
            weight(program, STOCK)

    def test_drawn_programs(self):
        draw = chance.drawer(2)
        told = []
        for turn in range(300):
            program = chance.program(draw, ("num", "truth", "num"), "num", draw.randint(1, 24), far=1)
            for stock in (STOCK, ALL, FULL, (((0, 1), (1, 2), (-1, 3)), ((1, 9), (-1, 8)), ALL[2])):
                self.assertEqual(weight(program, stock=stock), plain.weight(program, stock), program)
                told.append(weight(program, stock=stock))
        self.assertGreater(len(told) - told.count(None), 300)
        self.assertGreater(told.count(None), 300)

    def test_told_programs(self):
        program = ("in", 0)
        for turn in range(20000):
            program = ("plus", 1, program)
        self.assertEqual(weight(program), 20001)
        self.assertIsNone(weight(("plus", 1, program), stock=((), ((2, 1),), ())))


class ComesFirst(unittest.TestCase):
    def check_order(self, programs, stock):
        """These come one behind the other."""
        for (at, one), (place, other) in itertools.product(enumerate(programs), repeat=2):
            self.assertIs(comes_first(one, other, stock=stock), at < place, (one, other))

    def test_lighter_ones_first(self):
        self.check_order([("in", 2), ("plus", -1, ("in", 0)), ("least", ("in", 0), ("in", 0))], STOCK)
        # With these weights what has more knots is lighter.
        stock = (((0, 9), (1, 1)), ((1, 1),), (("if", 1), ("atmost", 1)))
        self.check_order([("plus", 1, ("plus", 1, ("in", 0))), ("num", 0)], stock)

    def test_ranks_of_those_that_weigh_alike(self):
        self.check_order([("in", 0), ("in", 1), ("in", 2), ("num", 0), ("num", 1)], STOCK)
        self.check_order([
            ("plus", 1, ("in", 0)), ("plus", 1, ("in", 1)), ("plus", 1, ("num", 0)), ("plus", 1, ("num", 1)),
            ("plus", -1, ("in", 0)), ("plus", -1, ("num", 1))], STOCK)
        self.check_order([
            ("plus", 1, ("plus", 1, ("in", 0))), ("plus", 1, ("plus", -1, ("in", 0))),
            ("plus", -1, ("plus", 1, ("in", 0))), ("least", ("in", 0), ("in", 0)), ("least", ("in", 0), ("num", 1)),
            ("least", ("num", 0), ("in", 0)), ("most", ("in", 0), ("in", 0)), ("atmost", ("in", 0), ("in", 0))], STOCK)

    def test_knot_by_knot(self):
        deep = ("least", ("plus", 1, ("in", 0)), ("in", 1))
        right = ("least", ("in", 2), ("plus", -1, ("num", 1)))
        self.check_order([right, deep], STOCK)
        truth = ("atmost", ("in", 0), ("in", 0))
        self.check_order([("if", truth, ("in", 0), ("num", 1)), ("if", truth, ("in", 1), ("in", 0))], STOCK)

    def test_other_orders(self):
        stock = (((1, 1), (0, 1)), ((-1, 1), (1, 1)), (("most", 1), ("if", 1), ("atmost", 1), ("least", 1)))
        self.check_order([("in", 0), ("num", 1), ("num", 0)], stock)
        self.check_order([("plus", -1, ("num", 1)), ("plus", -1, ("num", 0)), ("plus", 1, ("in", 0))], stock)
        self.check_order([("most", ("in", 0), ("in", 0)), ("atmost", ("in", 0), ("in", 0)),
                          ("least", ("in", 0), ("in", 0))], stock)
        heavy = (((1, 2), (0, 1)), (), (("no", 2), ("yes", 1)))
        self.check_order([("in", 0), ("num", 0), ("yes",), ("num", 1), ("no",)], heavy)

    def test_just_one_way_about(self):
        draw = chance.drawer(3)
        for stock in (STOCK, ALL, (((-1, 2), (1, 1), (0, 1)), ((-1, 1), (1, 1)), ALL[2])):
            programs = [chance.program(draw, ("num", "truth", "num"), "num", draw.randint(1, 8), far=1)
                        for turn in range(120)]
            programs = [program for program in programs if weight(program, stock=stock) is not None]
            self.assertGreater(len(programs), 15)
            for one, other in itertools.product(programs, repeat=2):
                first = comes_first(one, other, stock=stock)
                less = (plain.weight(one, stock), plain.ranks(one, stock)) < \
                    (plain.weight(other, stock), plain.ranks(other, stock))
                self.assertIs(first, less)
                self.assertEqual(first + comes_first(other, one, stock=stock), one != other)

    def test_by_name(self):
        self.assertIs(comes_first(other=("in", 1), one=("in", 0)), True)
        self.assertIs(comes_first(("num", 1), ("num", 0)), False)
        self.assertIs(comes_first(("num", 1), ("num", 0), stock=(((1, 1), (0, 1)), (), ())), True)
        with self.assertRaises(TypeError):
            comes_first(("in", 0), ("in", 1), STOCK)


if __name__ == "__main__":
    unittest.main()
