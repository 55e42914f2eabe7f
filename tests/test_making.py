"""Points 23, 25 and 26, of point 3 what it says of these, and of points 2 and 10 what they say of leastmaker.making."""

import inspect
import itertools
import unittest

from leastmaker.always import same
from leastmaker.answers import answer_holds
from leastmaker.making import least_of, made, rounds
from leastmaker.programs import kind_of
from leastmaker.shelves import shelf_holds
from leastmaker.stocks import STOCK, comes_first, weight
from leastmaker.texts import read
from leastmaker.wishes import meets, met_by, wish_of
from tests import chance, plain
from tests.test_shelves import CHOICES, HEAVY, LEAVES, LOGIC, NONE, STEPS, STOCKS, TURNED, WORDS

ONE = (("num",), "num")
TWO = (("num", "num"), "num")
THREE = (("num", "num", "num"), "num")
MOST_WISH = read("both both atmost in 0 in 2 atmost in 1 in 2 either atmost in 2 in 0 atmost in 2 in 1")
ALL_WORDS = (((0, 1),), (), (("not", 1), ("both", 1), ("either", 1), ("yes", 1), ("no", 1), ("atmost", 1)))


def is_wish(head, text):
    """The wish for what the text's program tells."""
    many = len(head[0])
    program = read(text)
    if head[1] == "num":
        return ("both", ("atmost", ("in", many), program), ("atmost", program, ("in", many)))
    return ("if", ("in", many), program, ("not", program))


def small_wishes(seed, turns, most=4):
    """(head, wish, stock, most), so small that all programs can be gone through."""
    for turn, (draw, head, wish) in enumerate(chance.wishes(seed, turns, fars=(1, 3))):
        load = draw.randint(1, most)
        yield head, wish, STOCKS[turn % len(STOCKS)], min(load, 3) if len(head[0]) == 3 else load


def aimed_wishes(seed, turns, most=4):
    """The same, for the answers of a drawn program, or for such that are no less, or no more, or one of two."""
    draw = chance.drawer(seed)
    for turn in range(turns):
        kinds = draw.choice(chance.KINDS[3:])
        kind = draw.choice(("num", "num", "truth"))
        answer = ("in", len(kinds))
        one, other = [chance.program(draw, kinds, kind, draw.randint(1, 7), far=1, compares=2) for part in range(2)]
        parts = [("atmost", one, answer), ("atmost", answer, one)] if kind == "num" else [("if", answer, one, other)]
        wish = draw.choice([*parts, ("both", parts[0], parts[-1]), ("both", is_wish((kinds, kind), plain.text(one)),
                                                                    is_wish((kinds, kind), plain.text(one))),
                            ("either", is_wish((kinds, kind), plain.text(one)),
                             is_wish((kinds, kind), plain.text(other)))])
        yield (kinds, kind), wish, STOCKS[turn % len(STOCKS)], draw.randint(2, most)


class Checks(unittest.TestCase):
    def first_meeting(self, head, wish, stock, most):
        """The first program that meets the wish, by going through all of them."""
        for load, kind, program in plain.programs_of(head[0], stock, most):
            if kind == head[1] and meets(head, wish, program)[0] == "sure":
                return program
        return None

    def check_inputs(self, kinds, inputs):
        self.assertIs(type(inputs), tuple)
        self.assertEqual([type(thing) for thing in inputs], [{"num": int, "truth": bool}[kind] for kind in kinds])


class Made(Checks):
    def check(self, head, wish, stock=STOCK, most=5):
        """What is told is of its form and let by; the program."""
        told = made(head, wish, stock=stock, most=most)
        self.assertIs(type(told), tuple)
        self.assertIs(answer_holds(head, wish, told, stock=stock, most=most), True, (head, wish, stock, most))
        self.assertEqual(made(head, wish, stock=stock, most=most), told)
        if told[0] == "none":
            word, points, shelf = told
            closed, program = most, None
        else:
            word, program, points, shelf, tree = told
            self.assertEqual(word, "made")
            closed = weight(program, stock=stock) - 1
            self.assertEqual(kind_of(head[0], program), head[1])
            self.assertEqual(meets(head, wish, program)[0], "sure")
        self.assertIs(type(points), tuple)
        self.assertEqual(len(set(points)), len(points))
        for inputs in points:
            self.check_inputs(head[0], inputs)
        self.assertIs(shelf_holds(head[0], points, shelf, stock=stock, most=closed), True)
        for load, kind, row, other in shelf:
            self.assertTrue(kind != head[1] or not all(
                plain.value(wish, (*point, answer)) for point, answer in zip(points, row)))
        return program

    def check_text(self, head, wish, text, stock=STOCK, most=5):
        program = self.check(head, wish, stock, most)
        self.assertEqual(program, None if text is None else read(text))

    def test_met_by_a_leaf(self):
        self.check_text(ONE, is_wish(ONE, "in 0"), "in 0")
        self.check_text(THREE, is_wish(THREE, "in 2"), "in 2", most=1)
        self.check_text(TWO, is_wish(TWO, "num 1"), "num 1", most=1)
        self.check_text(TWO, read("yes"), "in 0")
        self.check_text(TWO, read("atmost in 1 in 2"), "in 1", most=1)
        self.check_text(((), "num"), read("yes"), "num 0")
        self.check_text((("num", "truth"), "truth"), read("in 2"), "yes", stock=ALL_WORDS, most=1)
        self.check_text((("num", "truth"), "truth"), read("not in 2"), "no", stock=ALL_WORDS, most=1)
        self.check_text((("num", "truth"), "truth"), read("either in 1 not in 2"), "in 1", stock=ALL_WORDS, most=1)

    def test_met_by_a_step(self):
        self.check_text(ONE, is_wish(ONE, "plus 1 in 0"), "plus 1 in 0", most=2)
        self.check_text(ONE, is_wish(ONE, "num -1"), "plus -1 num 0", most=2)
        self.check_text(ONE, is_wish(ONE, "plus 5 in 0"), "plus 1 plus 1 plus 1 plus 1 plus 1 in 0", most=6)
        self.check_text(ONE, is_wish(ONE, "plus 5 in 0"), None, most=5)
        self.check_text(ONE, is_wish(ONE, "plus 12 in 0"), "plus -5 plus 7 plus 10 in 0",
                        stock=((), ((-5, 1), (7, 1), (10, 1)), ()), most=6)

    def test_met_by_each_word(self):
        for word in ("least", "most"):
            self.check_text(TWO, is_wish(TWO, f"{word} in 1 in 0"), f"{word} in 0 in 1", most=3)
        truth = (("num", "num"), "truth")
        self.check_text(truth, is_wish(truth, "atmost in 1 in 0"), "atmost in 1 in 0", most=3)
        truths = (("truth", "truth"), "truth")
        for word in ("both", "either"):
            self.check_text(truths, is_wish(truths, f"{word} in 1 in 0"), f"{word} in 0 in 1", stock=ALL_WORDS, most=3)
        self.check_text(truths, is_wish(truths, "not in 1"), "not in 1", stock=ALL_WORDS, most=2)
        self.check_text(truths, is_wish(truths, "yes"), "yes", stock=ALL_WORDS)
        self.check_text(truths, is_wish(truths, "no"), "no", stock=ALL_WORDS)
        chosen = (("truth", "num", "num"), "num")
        self.check_text(chosen, is_wish(chosen, "if not in 0 in 2 in 1"), "if in 0 in 1 in 2", most=4)
        self.check_text(THREE, is_wish(THREE, "if atmost in 0 in 1 in 2 num 0"), "if atmost in 0 in 1 in 2 num 0",
                        most=6)
        self.check_text(truths, is_wish(truths, "either both in 0 in 1 both not in 0 not in 1"),
                        "if in 0 in 1 not in 1", stock=((), (), (("if", 1), ("not", 1))), most=6)

    def test_met_by_none(self):
        for head, text in [(ONE, "plus 7 in 0"), (TWO, "plus 3 least in 0 in 1"), (ONE, "num 1000"),
                           (THREE, "least in 0 least in 1 in 2")]:
            wish = is_wish(head, text)
            self.check_text(head, wish, None, most=4)
        self.check_text(TWO, read("no"), None, most=6)
        # Of no program of the answer's kind.
        self.check_text((("num",), "truth"), read("yes"), None, most=2)
        self.check_text((("truth",), "num"), read("yes"), None, stock=NONE, most=6)
        self.check_text(((), "truth"), read("yes"), None, most=2)
        self.check_text(((), "num"), read("yes"), None, stock=HEAVY, most=6)
        self.assertEqual(made((("num",), "truth"), read("yes"), most=2)[:2], ("none", ()))

    def test_a_weight_more_or_less(self):
        wish = is_wish(TWO, "plus 1 most in 0 in 1")
        for most in range(1, 7):
            self.check_text(TWO, wish, "plus 1 most in 0 in 1" if most >= 4 else None, most=most)
        wish = is_wish(THREE, "most in 0 most in 1 in 2")
        for most in range(1, 7):
            self.check_text(THREE, wish, "most in 0 most in 1 in 2" if most >= 5 else None, most=most)

    def test_the_first_of_those_that_weigh_alike(self):
        self.check_text(TWO, MOST_WISH, "most in 0 in 1")
        self.check_text(TWO, MOST_WISH, "most in 0 in 1", stock=TURNED)
        wish = read("both atmost in 0 in 2 atmost in 1 in 2")
        self.check_text(TWO, wish, "most in 0 in 1")
        # A number that does is as light as an input, and comes behind it.
        self.check_text(ONE, is_wish(ONE, "num 2"), "plus 1 num 1")
        self.check_text(ONE, is_wish(ONE, "num 0"), "num 0", stock=TURNED)
        self.check_text((("truth",), "num"), is_wish((("truth",), "num"), "if in 0 num 1 num 0"), "if in 0 num 1 num 0")

    def test_other_weights(self):
        # By these weights two steps are lighter than one number.
        stock = (((2, 5), (0, 1)), ((1, 1),), (("least", 1), ("if", 1), ("atmost", 1)))
        self.check_text(ONE, is_wish(ONE, "num 2"), "plus 1 plus 1 num 0", stock=stock)
        # most in 0 in 1 without the word: by an if, as far as it goes.
        self.check_text(TWO, MOST_WISH, "if atmost in 0 in 1 in 1 in 0", stock=stock, most=6)
        self.check_text(TWO, MOST_WISH, None, stock=stock, most=5)
        heavy = ((), (), (("most", 4), ("if", 1), ("atmost", 1)))
        self.check_text(TWO, MOST_WISH, "most in 0 in 1", stock=heavy, most=6)
        self.check_text(TWO, MOST_WISH, "if atmost in 0 in 1 in 1 in 0", stock=((), (), (("if", 1), ("atmost", 1),
                                                                                     ("most", 4))), most=6)
        self.check_text(TWO, MOST_WISH, None, stock=((), (), (("most", 4), ("if", 2), ("atmost", 1))), most=5)

    def test_of_no_inputs(self):
        head = ((), "num")
        self.check_text(head, read("both atmost num 3 in 0 atmost in 0 num 5"), "plus 1 plus 1 num 1")
        self.check_text(head, read("atmost in 0 num -2"), "plus -1 plus -1 num 0")
        self.check_text(((), "truth"), read("in 0"), "atmost num 0 num 0")
        self.check_text(((), "truth"), read("not in 0"), "atmost num 1 num 0")

    def test_against_all_programs(self):
        words = []
        for head, wish, stock, most in [*small_wishes(41, 260), *aimed_wishes(48, 200)]:
            program = self.check(head, wish, stock, most)
            self.assertEqual(program, self.first_meeting(head, wish, stock, most), (head, wish, stock, most))
            words.append("none" if program is None else program[0])
        for word in ("none", "in", "num", "plus", "yes", "no"):
            self.assertGreater(words.count(word), 2, word)

    def test_wishes_for_programs_of_the_stock(self):
        draw = chance.drawer(42)
        for turn in range(60):
            kinds = draw.choice(chance.KINDS[3:])
            stock = (STOCK, TURNED, CHOICES, LOGIC, STEPS, WORDS)[turn % 6]
            every = plain.programs_of(kinds, stock, 4)
            if every:
                load, kind, program = draw.choice(every)
                wish = is_wish((kinds, kind), plain.text(program))
                due = self.first_meeting((kinds, kind), wish, stock, 4)
                self.assertIsNotNone(due)
                self.assertEqual(self.check((kinds, kind), wish, stock, 4), due)
                lighter = weight(due, stock=stock) - 1
                if lighter > 0:
                    self.assertIsNone(self.check((kinds, kind), wish, stock, lighter))

    def test_wishes_of_examples(self):
        self.check_text(TWO, wish_of(TWO, [((1, 5), 5), ((7, 2), 7), ((-3, -3), -3)]), "most in 0 in 1")
        self.check_text(TWO, wish_of(TWO, [((1, 5), 5), ((7, 2), 2)]), "in 1")
        self.check_text(TWO, wish_of(TWO, [((1, 5), 5), ((1, 5), 6)]), None, most=6)
        self.check_text(TWO, wish_of(TWO, []), "in 0")
        self.check_text(TWO, wish_of(TWO, [((10 ** 6, -10 ** 6), 10 ** 6 - 1), ((-8, 9), -9)]), "plus -1 in 0")
        examples = [((x, y), min(x, max(y, 0))) for x, y in ((-1, 3), (4, 2), (7, 9), (5, -3), (-8, -8), (1, 0))]
        self.check_text(TWO, wish_of(TWO, examples), "least in 0 most in 1 num 0")

    def test_numbers_far_off(self):
        self.check_text(ONE, read("either atmost num 1000 in 0 atmost in 1 num -1000"), "num -1000",
                        stock=(((-1000, 2), (1000, 1)), ((1000, 1), (-1000, 3)), (("if", 1), ("atmost", 1))))
        self.check_text(ONE, read("either atmost num 1000 in 0 atmost in 1 in 0"), "in 0")
        self.check_text(TWO, read("atmost plus 1000 most in 0 in 1 in 2"), "plus 1000 most in 0 in 1",
                        stock=(((1000, 1),), ((1000, 1), (-1000, 1)), (("most", 1), ("if", 1), ("atmost", 1))))

    def test_wishes_that_fail_at_few_inputs(self):
        # Unlike each input: where one program fails, most others do what is wished.
        unlike = [("not", is_wish(THREE, f"in {k}")) for k in range(3)]
        wish = ("both", unlike[0], ("both", unlike[1], unlike[2]))
        self.check_text(THREE, wish, "plus 1 most in 0 most in 1 in 2", most=6)
        self.check_text(THREE, wish, None, most=5)
        stock = (((0, 1), (1000, 1), (-7, 1)), ((1000, 1), (-3, 1)), (("least", 1), ("yes", 1), ("if", 1)))
        self.check_text(THREE, wish, "plus -3 least in 0 least in 1 in 2", stock=stock, most=6)
        self.check_text(TWO, ("not", is_wish(TWO, "in 1")), "plus 1 in 1")

    def test_whatever_was_asked_between(self):
        first = made(TWO, MOST_WISH)
        made(TWO, read("atmost in 0 in 2"), stock=TURNED)
        made(THREE, is_wish(THREE, "in 2"))
        self.assertEqual(made(TWO, MOST_WISH), first)

    def test_what_is_left_out(self):
        wish = is_wish(ONE, "plus 4 in 0")
        self.assertEqual(made(ONE, wish), made(ONE, wish, stock=STOCK, most=5))
        self.assertEqual(made(ONE, wish)[1], read("plus 1 plus 1 plus 1 plus 1 in 0"))
        self.assertEqual(made(ONE, wish, most=4)[0], "none")
        self.assertEqual(made(wish=wish, head=ONE, stock=STEPS)[1], read("plus 2 plus 2 in 0"))
        for told in (made, rounds, least_of):
            found = inspect.signature(told).parameters
            self.assertEqual((found["stock"].default, found["most"].default), (STOCK, 5))
            with self.assertRaises(TypeError):
                told(ONE, wish, STOCK)


class Rounds(Checks):
    def check(self, head, wish, stock=STOCK, most=5):
        """Each round is as told, held against all programs; how many there are."""
        told = rounds(head, wish, stock=stock, most=most)
        self.assertIs(type(told), list)
        self.assertEqual(rounds(head, wish, stock=stock, most=most), told)
        every = [program for load, kind, program in plain.programs_of(head[0], stock, most) if kind == head[1]]
        ahead = []
        for at, (program, inputs) in enumerate(told):
            doing = [one for one in every
                     if all(plain.value(wish, (*point, plain.value(one, point))) for point in ahead)]
            self.assertEqual(program, doing[0] if doing else None)
            if at < len(told) - 1:
                self.check_inputs(head[0], inputs)
                self.assertIs(plain.value(wish, (*inputs, plain.value(program, inputs))), False)
                ahead.append(inputs)
            else:
                self.assertIsNone(inputs)
        for (one, inputs), (other, behind) in zip(told, told[1:]):
            if other is not None:
                self.assertIs(comes_first(one, other, stock=stock), True)
        last = told[-1][0]
        answer = made(head, wish, stock=stock, most=most)
        self.assertEqual(last, answer[1] if answer[0] == "made" else None)
        if last is not None:
            self.assertEqual(meets(head, wish, last)[0], "sure")
        self.assertTrue(all(type(pair) is tuple and len(pair) == 2 for pair in told))
        return len(told)

    def test_the_only_round(self):
        self.assertEqual(rounds(TWO, read("yes")), [(("in", 0), None)])
        self.assertEqual(rounds(TWO, read("yes"), stock=NONE, most=1), [(("in", 0), None)])
        self.assertEqual(rounds((("truth",), "num"), read("yes"), stock=NONE), [(None, None)])
        self.assertEqual(rounds((("num",), "truth"), read("yes"), most=2), [(None, None)])
        self.assertEqual(rounds(((), "num"), read("yes"), stock=HEAVY), [(None, None)])
        self.assertEqual(rounds(((), "num"), read("no")), [(("num", 0), ()), (None, None)])

    def test_listed_ones(self):
        self.assertGreater(self.check(TWO, MOST_WISH, most=4), 1)
        self.assertEqual(rounds(TWO, MOST_WISH)[0][0], ("in", 0))
        self.assertEqual(rounds(TWO, MOST_WISH)[-1], (read("most in 0 in 1"), None))
        self.check(ONE, is_wish(ONE, "plus 1 plus 1 in 0"))
        self.check(ONE, is_wish(ONE, "plus 9 in 0"), most=4)
        self.check(ONE, is_wish(ONE, "most in 0 num 0"), stock=CHOICES)
        self.check(TWO, ("both", ("not", is_wish(TWO, "in 0")), ("not", is_wish(TWO, "in 1"))), most=4)
        self.check((("truth", "truth"), "truth"), is_wish((("truth", "truth"), "truth"), "both in 0 in 1"),
                   stock=ALL_WORDS, most=4)

    def test_drawn_ones(self):
        many = [self.check(head, wish, stock, most)
                for head, wish, stock, most in [*small_wishes(43, 100), *aimed_wishes(49, 300)]]
        self.assertGreater(len([one for one in many if one > 2]), 30)
        self.assertIn(1, many)

    def test_told_lists_are_new(self):
        told = rounds(TWO, MOST_WISH)
        copy = list(told)
        told.clear()
        self.assertEqual(rounds(wish=MOST_WISH, head=TWO), copy)


class LeastOf(Checks):
    def check_text(self, kinds, text, due, stock=STOCK, most=5):
        told = least_of(kinds, read(text), stock=stock, most=most)
        self.assertEqual(told, None if due is None else read(due))

    def test_programs_of_the_stock(self):
        two = ("num", "num")
        for text, due in [
                ("in 0", "in 0"), ("plus 1 plus -1 in 1", "in 1"), ("least in 1 in 0", "least in 0 in 1"),
                ("least in 0 in 0", "in 0"), ("if atmost in 0 in 1 in 0 in 1", "least in 0 in 1"),
                ("most in 0 least in 0 in 1", "in 0"), ("least plus 1 in 0 plus 1 in 1", "plus 1 least in 0 in 1"),
                ("plus -1 num 1", "num 0"), ("if atmost in 0 in 0 in 1 in 0", "in 1"),
                ("atmost plus 1 in 0 plus 1 in 1", "atmost in 0 in 1"),
                ("if atmost in 0 in 1 atmost in 0 in 1 atmost in 0 in 0", "atmost in 0 in 0")]:
            self.check_text(two, text, due)
            self.assertEqual(same(two, read(text), read(due))[0], "same")

    def test_programs_of_other_stocks(self):
        self.check_text(("num",), "num 3", "plus 1 plus 1 num 1")
        self.check_text(("num",), "plus 3 in 0", "plus 1 plus 1 plus 1 in 0")
        self.check_text(("num",), "either atmost in 0 num 5 yes", "atmost in 0 in 0")
        self.check_text(("num",), "not atmost in 0 num 0", "atmost num 1 in 0")
        self.check_text(("num", "truth"), "not not in 1", "in 1")
        self.check_text(("num", "num"), "most in 0 in 1", "if atmost in 0 in 1 in 1 in 0", stock=CHOICES, most=6)
        self.check_text((), "num -1", "plus -1 num 0")
        self.check_text((), "num -1", "num -1", stock=CHOICES)

    def test_none_to_most(self):
        self.check_text(("num",), "plus 3 in 0", None, most=3)
        self.check_text(("num",), "num 1000", None, most=6)
        self.check_text(("num", "num"), "most in 0 in 1", None, stock=CHOICES, most=5)
        self.check_text(("num",), "yes", None, most=2)
        self.check_text(("num",), "in 0", "in 0", stock=NONE, most=1)
        self.check_text(("num",), "yes", None, stock=NONE, most=6)

    def test_against_all_programs(self):
        draw = chance.drawer(44)
        told = []
        for turn in range(150):
            kinds = draw.choice(chance.KINDS[3:])
            stock = STOCKS[turn % len(STOCKS)]
            program = chance.program(draw, kinds, draw.choice(("num", "truth")), draw.randint(1, 12), far=1)
            every = plain.programs_of(kinds, stock, 4)
            due = [other for load, kind, other in every
                   if kind == kind_of(kinds, program) and same(kinds, program, other)[0] == "same"]
            told.append(least_of(kinds, program, stock=stock, most=4))
            self.assertEqual(told[-1], due[0] if due else None, (kinds, program, stock))
        self.assertGreater(told.count(None), 30)
        self.assertGreater(len(told) - told.count(None), 30)

    def test_the_same_everywhere_just_where_the_least_ones_are(self):
        for kinds, stock, most in [(("num",), STOCK, 4), (("num", "truth"), CHOICES, 4), (("truth",), LOGIC, 4),
                                   (("num", "num"), TURNED, 3), ((), LEAVES, 3)]:
            draw = chance.drawer(45)
            every = plain.programs_of(kinds, stock, most)
            some = draw.sample(every, min(25, len(every)))
            least = {program: least_of(kinds, program, stock=stock, most=most) for load, kind, program in some}
            self.assertNotIn(None, least.values())
            for (load, kind, one), (more, own, other) in itertools.product(some, repeat=2):
                if kind == own:
                    alike = same(kinds, one, other)[0] == "same"
                    self.assertIs(least[one] == least[other], alike, (one, other))

    def test_great_programs(self):
        draw = chance.drawer(46)
        for turn in range(60):
            kinds = draw.choice(chance.KINDS)
            kind = draw.choice(("num", "truth"))
            program = chance.program(draw, kinds, kind, 24, far=draw.choice((1, 1000)))
            told = least_of(kinds, program, most=6)
            if told is not None:
                self.assertEqual(same(kinds, program, told)[0], "same")
                self.assertLessEqual(weight(told), 6)
                self.assertEqual(least_of(kinds, told, most=6), told)

    def test_what_is_left_out(self):
        self.assertEqual(least_of(program=read("num 4"), kinds=()), read("plus 1 plus 1 plus 1 num 1"))
        self.assertIsNone(least_of((), read("num 6")))
        self.assertEqual(least_of((), read("num 6"), most=6), read("plus 1 plus 1 plus 1 plus 1 plus 1 num 1"))


class TheTree(Checks):
    def test_of_the_wish_with_the_program(self):
        told = made(TWO, MOST_WISH)
        program = met_by(MOST_WISH, told[1], many=2)
        draw = chance.drawer(47)
        for inputs in chance.near(draw, ("num", "num"), (0, 1), 60):
            self.assertIs(plain.tree_value(told[4], inputs), plain.value(program, inputs))


if __name__ == "__main__":
    unittest.main()
