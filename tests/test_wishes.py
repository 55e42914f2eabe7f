"""Points 17, 18 and 19, of point 3 what it says of wishes, and of point 2 what it says of leastmaker.wishes."""

import itertools
import unittest

from leastmaker.always import same, sure_holds
from leastmaker.programs import kind_of, put
from leastmaker.texts import read
from leastmaker.wishes import anyhow, meets, met_by, wish_of
from tests import chance, plain

MILLION = 10 ** 6
TWO = (("num", "num"), "num")
MOST_WISH = read("both both atmost in 0 in 2 atmost in 1 in 2 either atmost in 2 in 0 atmost in 2 in 1")


def numbers_of(program):
    return [knot[1] for knot in plain.knots(program) if knot[0] in ("num", "plus")]


def answers_about(kind, wish, inputs):
    """Answers such that one of them does if any one does: the wish turns at none that lies further off."""
    if kind == "truth":
        return (True, False)
    reach = sum(abs(number) for number in numbers_of(wish)) + 2
    if reach > 60:
        steps = sorted({one + other + third for one in (0, *numbers_of(wish)) for other in (0, *numbers_of(wish))
                        for third in (-1, 0, 1)})
        steps = sorted({*steps, *[-step for step in steps], reach, -reach})
    else:
        steps = range(-reach, reach + 1)
    starts = [0, *[thing for thing in inputs if type(thing) is int]]
    return [start + step for start in starts for step in steps]


def does(wish, inputs, answer):
    return plain.value(wish, (*inputs, answer))


class Checks(unittest.TestCase):
    def check_inputs(self, kinds, inputs):
        self.assertIs(type(inputs), tuple)
        self.assertEqual([type(thing) for thing in inputs], [{"num": int, "truth": bool}[kind] for kind in kinds])

    def check_meets(self, head, wish, program):
        word, paper = meets(head, wish, program)
        if word == "sure":
            self.assertIs(sure_holds(head[0], met_by(wish, program, many=len(head[0])), paper), True)
        else:
            self.assertEqual(word, "fails")
            self.check_inputs(head[0], paper)
            self.assertIs(does(wish, paper, plain.value(program, paper)), False)
        return word


class MetBy(Checks):
    def test_by_the_word_many(self):
        program = read("most in 0 in 1")
        told = ("both", ("both", ("atmost", ("in", 0), program), ("atmost", ("in", 1), program)),
                ("either", ("atmost", program, ("in", 0)), ("atmost", program, ("in", 1))))
        self.assertEqual(met_by(MOST_WISH, program, many=2), told)
        self.assertEqual(met_by(program=program, many=2, wish=MOST_WISH), told)
        with self.assertRaises(TypeError):
            met_by(MOST_WISH, program, 2)

    def test_of_no_inputs(self):
        self.assertEqual(met_by(("in", 0), ("yes",), many=0), ("yes",))
        self.assertEqual(met_by(("atmost", ("in", 0), ("num", 3)), ("num", 2), many=0),
                         ("atmost", ("num", 2), ("num", 3)))

    def test_all_at_once(self):
        # What is put in has inputs of its own, which stay.
        self.assertEqual(met_by(read("if in 1 atmost in 2 in 0 in 1"), read("plus 1 in 0"), many=2),
                         read("if in 1 atmost plus 1 in 0 in 0 in 1"))

    def test_drawn_ones(self):
        for draw, head, wish in chance.wishes(16, 150):
            program = chance.program(draw, head[0], head[1], draw.randint(1, 12))
            told = met_by(wish, program, many=len(head[0]))
            self.assertEqual(told, plain.put(wish, (*[("in", k) for k in range(len(head[0]))], program)))
            inputs = chance.inputs(draw, head[0], 5)
            self.assertIs(plain.value(told, inputs), does(wish, inputs, plain.value(program, inputs)))


class Meets(Checks):
    def test_listed_ones(self):
        for text, word in [
                ("most in 0 in 1", "sure"), ("most in 1 in 0", "sure"), ("if atmost in 0 in 1 in 1 in 0", "sure"),
                ("if atmost in 1 in 0 in 0 in 1", "sure"), ("in 0", "fails"), ("least in 0 in 1", "fails"),
                ("num 0", "fails"), ("plus 1 most in 0 in 1", "fails"), ("if atmost in 0 num 1000 most in 0 in 1 in 0",
                                                                         "fails")]:
            self.assertEqual(self.check_meets(TWO, MOST_WISH, read(text)), word, text)

    def test_wishes_for_truths(self):
        head = (("num", "truth"), "truth")
        wish = read("either not in 1 if in 2 atmost in 0 num 3 atmost num 4 in 0")
        for text, word in [("atmost in 0 num 3", "sure"), ("if in 1 atmost in 0 num 3 no", "sure"),
                           ("both in 1 atmost in 0 num 3", "sure"), ("atmost in 0 num 4", "fails"), ("yes", "fails"),
                           ("in 1", "fails")]:
            self.assertEqual(self.check_meets(head, wish, read(text)), word, text)

    def test_but_at_one_input(self):
        wish = read("either both atmost in 0 in 1 atmost in 1 in 0 both atmost in 0 num 9 atmost num 9 in 0")
        one = ("if", ("both", ("atmost", ("in", 0), ("num", 9)), ("atmost", ("num", 9), ("in", 0))), ("num", 0),
               ("in", 0))
        self.assertEqual(self.check_meets((("num",), "num"), wish, one), "sure")
        other = put(one, (("plus", 1, ("in", 0)),))
        self.assertEqual(self.check_meets((("num",), "num"), wish, other), "fails")

    def test_of_no_inputs(self):
        head = ((), "num")
        wish = read("both atmost num 3 in 0 atmost in 0 num 5")
        for number in range(1, 8):
            self.assertEqual(self.check_meets(head, wish, ("num", number)), "sure" if 3 <= number <= 5 else "fails")
        self.assertEqual(meets(head, wish, ("num", 9)), ("fails", ()))
        self.assertEqual(self.check_meets(((), "truth"), ("in", 0), ("yes",)), "sure")

    def test_drawn_ones(self):
        words = []
        for draw, head, wish in chance.wishes(17, 300):
            program = chance.program(draw, head[0], head[1], draw.randint(1, 24))
            words.append(self.check_meets(head, wish, program))
            if words[-1] == "sure":
                offsets = [0, *numbers_of(wish), *numbers_of(program)]
                for inputs in chance.near(draw, head[0], offsets, 60):
                    self.assertIs(does(wish, inputs, plain.value(program, inputs)), True)
        self.assertGreater(words.count("sure"), 20)
        self.assertGreater(words.count("fails"), 100)

    def test_by_name(self):
        self.assertEqual(meets(program=read("most in 0 in 1"), wish=MOST_WISH, head=TWO)[0], "sure")


class WishOf(Checks):
    def check(self, head, examples):
        """The wish is one, and says of each answer about there what the examples say."""
        first = list(examples)
        wish = wish_of(head, examples)
        self.assertEqual(list(examples), first)
        self.assertEqual(kind_of((*head[0], head[1]), wish), "truth")
        self.assertEqual(wish_of(head, tuple(examples)), wish)
        for inputs, answer in examples:
            near = [inputs]
            for k, thing in enumerate(inputs):
                others = (not thing,) if type(thing) is bool else (thing - 1, thing + 1)
                near += [(*inputs[:k], other, *inputs[k + 1:]) for other in others]
            for here in near:
                for told in (True, False) if head[1] == "truth" else (answer - 1, answer, answer + 1, 0):
                    due = all(told == other for place, other in examples if place == here)
                    self.assertIs(does(wish, here, told), due, (examples, here, told))
        return wish

    def test_programs_that_tell_the_answers(self):
        examples = [((1, 5), 5), ((7, 2), 7), ((-3, -3), -3)]
        wish = self.check(TWO, examples)
        for text, word in [("most in 0 in 1", "sure"), ("if atmost in 0 in 1 in 1 in 0", "sure"), ("in 0", "fails"),
                           ("least in 0 in 1", "fails"), ("num 5", "fails")]:
            self.assertEqual(self.check_meets(TWO, wish, read(text)), word)
            self.assertEqual(self.check_meets(TWO, wish_of(TWO, tuple(examples)), read(text)), word)
            self.assertEqual(word == "sure", all(plain.value(read(text), inputs) == told for inputs, told in examples))

    def test_none_of_them(self):
        for kinds, kind in itertools.product(chance.KINDS, ("num", "truth")):
            for none in ([], ()):
                wish = wish_of((kinds, kind), none)
                self.assertEqual(kind_of((*kinds, kind), wish), "truth")
                program = ("num", 3) if kind == "num" else ("no",)
                self.assertEqual(self.check_meets((kinds, kind), wish, program), "sure")

    def test_the_same_twice(self):
        wish = self.check(TWO, [((1, 5), 5), ((1, 5), 5)])
        self.assertEqual(self.check_meets(TWO, wish, read("in 1")), "sure")
        self.assertEqual(self.check_meets(TWO, wish, read("in 0")), "fails")

    def test_two_that_clash(self):
        wish = self.check(TWO, [((1, 5), 5), ((2, 2), 0), ((1, 5), 6)])
        for text in ("in 1", "plus 1 in 1", "num 0", "in 0"):
            self.assertEqual(self.check_meets(TWO, wish, read(text)), "fails")
        self.assertEqual(anyhow(TWO, wish), ("void", (1, 5)))
        clash = wish_of(((), "truth"), [((), True), ((), False)])
        self.assertEqual(anyhow(((), "truth"), clash), ("void", ()))

    def test_of_no_inputs(self):
        wish = self.check(((), "num"), [((), 4)])
        self.assertEqual(self.check_meets(((), "num"), wish, ("num", 4)), "sure")
        self.assertEqual(self.check_meets(((), "num"), wish, ("num", 5)), "fails")
        wish = self.check(((), "truth"), [((), False)])
        self.assertEqual(self.check_meets(((), "truth"), wish, ("no",)), "sure")
        self.assertEqual(self.check_meets(((), "truth"), wish, ("yes",)), "fails")

    def test_numbers_and_truths_are_apart(self):
        head = (("num", "truth"), "truth")
        wish = self.check(head, [((1, True), True), ((1, False), False), ((0, True), False)])
        self.assertEqual(self.check_meets(head, wish, read("both in 1 atmost num 1 in 0")), "sure")
        self.assertEqual(self.check_meets(head, wish, read("in 1")), "fails")

    def test_drawn_examples(self):
        draw = chance.drawer(18)
        for turn in range(200):
            kinds, kind = draw.choice(chance.KINDS), draw.choice(("num", "truth"))
            far = draw.choice((1, 3, MILLION))
            examples = [(chance.inputs(draw, kinds, far), chance.inputs(draw, (kind,), far)[0])
                        for turn in range(draw.randint(1, 6))]
            wish = self.check((kinds, kind), examples)
            word, paper = anyhow((kinds, kind), wish)
            if len(dict(examples)) == len(set(examples)):
                self.assertEqual(word, "does")
                for inputs, answer in examples:
                    self.assertEqual(plain.value(paper, inputs), answer)
                self.assertEqual(self.check_meets((kinds, kind), wish, paper), "sure")
            else:
                self.assertEqual(word, "void")
                self.assertNotEqual(len({answer for inputs, answer in examples if inputs == paper}), 1)

    def test_numbers_to_a_million(self):
        examples = [((MILLION, -MILLION), -MILLION), ((-MILLION, MILLION), MILLION), ((MILLION, MILLION), 0)]
        wish = self.check(TWO, examples)
        self.assertEqual(self.check_meets(TWO, wish, read("in 1")), "fails")
        self.assertEqual(self.check_meets(TWO, wish_of(TWO, examples[:2]), read("in 1")), "sure")
        self.assertEqual(wish_of(examples=examples, head=TWO), wish)

    def test_many_examples(self):
        draw = chance.drawer(19)
        head = (("num",) * 3, "num")
        examples = [(chance.inputs(draw, head[0], 3), draw.randint(-9, 9)) for turn in range(12)]
        examples = list(dict(examples).items())
        wish = self.check(head, examples)
        word, program = anyhow(head, wish)
        self.assertEqual(self.check_meets(head, wish, program), "sure")
        self.assertEqual([plain.value(program, inputs) for inputs, answer in examples],
                         [answer for inputs, answer in examples])


class Anyhow(Checks):
    def check(self, head, wish):
        told = anyhow(head, wish)
        self.assertIs(type(told), tuple)
        word, paper = told
        if word == "does":
            self.assertEqual(kind_of(head[0], paper), head[1])
            self.assertEqual(self.check_meets(head, wish, paper), "sure")
        else:
            self.assertEqual(word, "void")
            self.check_inputs(head[0], paper)
            for answer in answers_about(head[1], wish, paper):
                self.assertIs(does(wish, paper, answer), False, (wish, paper, answer))
        return word

    def test_bounds_below_and_above(self):
        for text, word in [
                ("atmost in 0 in 2", "does"),
                ("atmost in 2 in 0", "does"),
                ("both atmost in 0 in 2 atmost in 1 in 2", "does"),
                ("both atmost in 2 in 0 atmost in 2 plus -5 in 1", "does"),
                ("both atmost in 0 in 2 atmost in 2 in 0", "does"),
                ("both atmost in 0 in 2 atmost in 2 plus -1 in 0", "void"),
                ("both atmost in 0 in 2 atmost in 2 plus 7 in 0", "does"),
                ("both atmost in 0 in 2 atmost in 2 in 1", "void"),
                ("both atmost least in 0 in 1 in 2 atmost in 2 most in 0 in 1", "does"),
                ("both atmost most in 0 in 1 in 2 atmost in 2 least in 0 in 1", "void"),
                ("either both atmost in 0 in 2 atmost in 2 in 1 atmost plus 1 in 1 in 0", "does"),
                ("both atmost num 1000 in 2 atmost in 2 num 1000", "does"),
                ("both atmost num 1000 in 2 atmost in 2 num 999", "void"),
                ("yes", "does"), ("no", "void"), ("atmost in 0 in 1", "void"), ("either atmost in 0 in 1 yes", "does"),
                ("not atmost in 2 in 0", "does"), ("not atmost in 0 in 2", "does")]:
            self.assertEqual(self.check(TWO, read(text)), word, text)
        self.assertEqual(self.check(TWO, MOST_WISH), "does")

    def test_several_ranges(self):
        for text, word in [
                ("either both atmost in 0 in 2 atmost in 2 in 1 both atmost in 1 in 2 atmost in 2 in 0", "does"),
                ("either both atmost num 3 in 2 atmost in 2 in 0 both atmost in 2 num 5 atmost in 1 in 2", "void"),
                ("either atmost in 2 least in 0 in 1 atmost most in 0 in 1 in 2", "does"),
                ("both not both atmost num 0 in 2 atmost in 2 num 9 both atmost num 0 in 2 atmost in 2 in 0", "void"),
                ("both either atmost in 2 num 0 atmost num 9 in 2 both atmost in 0 in 2 atmost in 2 plus 9 in 0",
                 "does"),
                ("both either atmost in 2 num 0 atmost num 9 in 2 both atmost in 0 in 2 atmost in 2 plus 7 in 0",
                 "void")]:
            self.assertEqual(self.check(TWO, read(text)), word, text)

    def test_no_answer_at_one_input_alone(self):
        for number in (-1000, 0, 3, 999):
            there = ("both", ("atmost", ("in", 0), ("num", number)), ("atmost", ("num", number), ("in", 0)))
            self.assertEqual(anyhow((("num",), "num"), ("not", there)), ("void", (number,)))
            self.assertEqual(anyhow((("num",), "truth"), ("not", there)), ("void", (number,)))
            self.assertEqual(anyhow((("num",), "num"), ("both", ("not", there), read("atmost in 1 in 0"))),
                             ("void", (number,)))
            # Here the range of the answers has none in it at one input alone.
            low = ("plus", 1, ("least", ("in", 0), ("num", number)))
            high = ("most", ("in", 0), ("num", number))
            wish = ("both", ("atmost", low, ("in", 1)), ("atmost", ("in", 1), high))
            self.assertEqual(anyhow((("num",), "num"), wish), ("void", (number,)))

    def test_wishes_for_truths(self):
        head = (("num", "truth"), "truth")
        for text, word in [
                ("in 2", "does"), ("not in 2", "does"), ("if in 2 in 1 not in 1", "does"), ("both in 2 in 1", "void"),
                ("either in 1 if in 2 atmost in 0 num 3 atmost num 4 in 0", "does"),
                ("if in 2 atmost in 0 num 3 atmost num 5 in 0", "void"), ("yes", "does"), ("no", "void"),
                ("either in 2 atmost in 0 num 5", "does"), ("both in 2 not in 2", "void")]:
            self.assertEqual(self.check(head, read(text)), word, text)
        self.assertEqual(anyhow(head, read("if in 2 atmost in 0 num 3 atmost num 5 in 0"))[1][0], 4)

    def test_nums_by_truths(self):
        head = (("truth", "truth", "num"), "num")
        for text, word in [
                ("if in 0 atmost in 3 in 2 atmost plus 1 in 2 in 3", "does"),
                ("if in 0 both atmost in 3 num 3 atmost num 3 in 3 "
                 "if in 1 both atmost in 3 num 4 atmost num 4 in 3 yes", "does"),
                ("either in 0 either in 1 both atmost in 3 in 2 atmost plus 1 in 2 in 3", "void"),
                ("both either in 0 atmost in 3 num 5 either not in 1 atmost num 6 in 3", "void"),
                ("both either in 0 atmost in 3 num 5 either not in 1 atmost num 5 in 3", "does")]:
            self.assertEqual(self.check(head, read(text)), word, text)

    def test_of_no_inputs(self):
        self.assertEqual(self.check(((), "num"), read("both atmost num 3 in 0 atmost in 0 num 5")), "does")
        self.assertEqual(anyhow(((), "num"), read("both atmost num 3 in 0 atmost in 0 num 2")), ("void", ()))
        self.assertEqual(self.check(((), "truth"), read("not in 0")), "does")
        self.assertEqual(anyhow(((), "truth"), read("both in 0 not in 0")), ("void", ()))

    def test_drawn_wishes(self):
        words = []
        for draw, head, wish in chance.wishes(20, 500):
            words.append((head[1], self.check(head, wish)))
        for kind in ("num", "truth"):
            for word in ("does", "void"):
                self.assertGreater(words.count((kind, word)), 15)

    def test_small_wishes_by_looking_at_inputs(self):
        # With numbers this small, what no answer does at, if anything, lies this near to 0, too.
        words = []
        for draw, head, wish in chance.wishes(21, 400, fars=(1,)):
            word = self.check(head, wish)
            words.append(word)
            if word == "void" or len(head[0]) > 2:
                continue
            for inputs in chance.all_inputs(head[0], range(-4, 5)):
                self.assertTrue(any(does(wish, inputs, answer) for answer in answers_about(head[1], wish, inputs)))
        self.assertGreater(words.count("does"), 50)

    def test_a_wish_with_one_function(self):
        # What does is settled everywhere, so what is told has to be this very function.
        draw = chance.drawer(22)
        for turn in range(60):
            kinds, kind = draw.choice(chance.KINDS), draw.choice(("num", "truth"))
            program = chance.program(draw, kinds, kind, draw.randint(1, 12), compares=3, ifs=3)
            answer = ("in", len(kinds))
            wish = ("both", ("atmost", program, answer), ("atmost", answer, program)) if kind == "num" \
                else ("if", program, answer, ("not", answer))
            word, told = anyhow((kinds, kind), wish)
            self.assertEqual(word, "does")
            self.assertEqual(same(kinds, told, program)[0], "same")

    def test_asked_again_and_by_name(self):
        first = anyhow(TWO, MOST_WISH)
        anyhow((("num",), "num"), read("atmost in 0 in 1"))
        self.assertEqual(anyhow(wish=MOST_WISH, head=TWO), first)


if __name__ == "__main__":
    unittest.main()
