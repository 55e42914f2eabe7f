"""Point 20, of point 3 what it says of it, and of point 2 what it says of leastmaker.settled."""

import unittest

from leastmaker.always import alike, sure_holds
from leastmaker.programs import kind_of
from leastmaker.settled import another, clashless, settled
from leastmaker.texts import read
from leastmaker.wishes import anyhow, meets, wish_of
from tests import chance, plain

MILLION = 10 ** 6
TWO = (("num", "num"), "num")
MOST_WISH = read("both both atmost in 0 in 2 atmost in 1 in 2 either atmost in 2 in 0 atmost in 2 in 1")

# Wishes by TWO that leave one answer at most, and such that leave more somewhere.
ONE = [
    "both atmost in 0 in 2 atmost in 2 in 0",
    "no",
    "both atmost in 2 num 5 atmost num 6 in 2",
    "if atmost in 0 in 1 both atmost in 2 in 0 atmost in 0 in 2 both atmost in 2 in 1 atmost in 1 in 2",
    "both both atmost in 0 in 2 atmost in 2 in 1 atmost in 1 in 0",
    "both atmost plus 1000 in 0 in 2 atmost in 2 plus 1000 least in 0 in 1",
]
MORE = [
    "yes",
    "atmost in 0 in 2",
    "atmost in 2 num -1000",
    "both atmost in 0 in 2 atmost in 2 in 1",
    "both atmost in 0 in 2 atmost in 2 plus 1 in 0",
    "either both atmost in 0 in 2 atmost in 2 in 0 both atmost in 1 in 2 atmost in 2 in 1",
    "not both atmost in 0 in 2 atmost in 2 in 0",
    # At one input alone.
    "both both atmost in 0 in 2 atmost in 2 in 1 both atmost in 1 num 778 atmost num 777 in 0",
]


class Clashless(unittest.TestCase):
    def test_as_written(self):
        wish = read("atmost in 0 in 1")
        other = read("atmost in 0 in 2")
        like = alike("num", ("in", 1), ("in", 2))
        self.assertEqual(clashless((("num",), "num"), wish), ("not", ("both", ("both", wish, other), ("not", like))))
        wish = read("either in 0 in 2")
        other = read("either in 0 in 3")
        like = alike("truth", ("in", 2), ("in", 3))
        head = (("truth", "num"), "truth")
        self.assertEqual(clashless(head, wish), ("not", ("both", ("both", wish, other), ("not", like))))
        self.assertEqual(clashless(wish=wish, head=head), clashless(head, wish))
        wish = read("in 0")
        like = alike("truth", ("in", 0), ("in", 1))
        self.assertEqual(clashless(((), "truth"), wish), ("not", ("both", ("both", wish, ("in", 1)), ("not", like))))

    def test_drawn_wishes(self):
        for draw, (kinds, kind), wish in chance.wishes(23, 100):
            many = len(kinds)
            second = plain.put(wish, (*[("in", k) for k in range(many)], ("in", many + 1)))
            like = alike(kind, ("in", many), ("in", many + 1))
            told = clashless((kinds, kind), wish)
            self.assertEqual(told, ("not", ("both", ("both", wish, second), ("not", like))))
            self.assertEqual(kind_of((*kinds, kind, kind), told), "truth")


class Settled(unittest.TestCase):
    def check(self, head, wish):
        told = settled(head, wish)
        kinds, kind = head
        self.assertIs(type(told), tuple)
        if told[0] == "one":
            self.assertEqual(len(told), 2)
            self.assertIs(sure_holds((*kinds, kind, kind), clashless(head, wish), told[1]), True)
        else:
            word, inputs, one, other = told
            self.assertEqual(word, "two")
            found = [type(thing) for thing in (*inputs, one, other)]
            self.assertEqual(found, [{"num": int, "truth": bool}[name] for name in (*kinds, kind, kind)])
            self.assertIs(type(inputs), tuple)
            self.assertNotEqual(one, other)
            for answer in (one, other):
                self.assertIs(plain.value(wish, (*inputs, answer)), True)
        return told[0]

    def test_listed_ones(self):
        for text in ONE:
            self.assertEqual(self.check(TWO, read(text)), "one", text)
        for text in MORE:
            self.assertEqual(self.check(TWO, read(text)), "two", text)
        self.assertEqual(self.check(TWO, MOST_WISH), "one")
        self.assertEqual(settled(TWO, read(MORE[-1]))[1], (777, 778))

    def test_wishes_for_truths(self):
        head = (("num", "truth"), "truth")
        for text, word in [
                ("in 2", "one"), ("yes", "two"), ("no", "one"), ("if in 2 in 1 not in 1", "one"),
                ("either in 2 in 1", "two"), ("if in 2 atmost in 0 num 3 atmost num 4 in 0", "one"),
                ("if in 2 atmost in 0 num 3 atmost num 3 in 0", "two"), ("both in 2 atmost in 0 num 3", "one")]:
            self.assertEqual(self.check(head, read(text)), word, text)
        self.assertEqual(settled(head, read("if in 2 atmost in 0 num 3 atmost num 3 in 0"))[1][0], 3)

    def test_of_no_inputs(self):
        self.assertEqual(self.check(((), "num"), read("both atmost num 3 in 0 atmost in 0 num 3")), "one")
        self.assertEqual(settled(((), "num"), read("both atmost num 3 in 0 atmost in 0 num 4"))[:2], ("two", ()))
        self.assertEqual(self.check(((), "truth"), read("in 0")), "one")
        self.assertEqual(self.check(((), "truth"), read("yes")), "two")

    def test_wishes_of_examples(self):
        self.assertEqual(self.check(TWO, wish_of(TWO, [((1, 2), 3)])), "two")
        self.assertEqual(self.check(((), "num"), wish_of(((), "num"), [((), MILLION)])), "one")
        head = (("truth",), "truth")
        for examples, word in (
                ([], "two"), ([((True,), False)], "two"), ([((True,), False), ((False,), False)], "one")):
            self.assertEqual(self.check(head, wish_of(head, examples)), word)

    def test_drawn_wishes(self):
        words = []
        for draw, head, wish in chance.wishes(24, 400):
            words.append(self.check(head, wish))
        self.assertGreater(words.count("one"), 40)
        self.assertGreater(words.count("two"), 40)

    def test_small_wishes_by_looking_at_inputs(self):
        for draw, (kinds, kind), wish in chance.wishes(25, 300, fars=(1,)):
            if len(kinds) > 2 or self.check((kinds, kind), wish) == "two":
                continue
            answers = range(-12, 13) if kind == "num" else (True, False)
            for inputs in chance.all_inputs(kinds, range(-4, 5)):
                doing = [answer for answer in answers if plain.value(wish, (*inputs, answer))]
                self.assertLessEqual(len(doing), 1, (wish, inputs))

    def test_asked_again_and_by_name(self):
        first = settled(TWO, MOST_WISH)
        settled(TWO, read(MORE[3]))
        self.assertEqual(settled(wish=MOST_WISH, head=TWO), first)


class Another(unittest.TestCase):
    def check(self, head, wish, program):
        told = another(head, wish, program)
        if settled(head, wish)[0] == "one":
            self.assertIsNone(told)
            return
        other, inputs = told
        self.assertIs(type(told), tuple)
        self.assertEqual([type(thing) for thing in inputs], [{"num": int, "truth": bool}[kind] for kind in head[0]])
        self.assertEqual(kind_of(head[0], other), head[1])
        self.assertEqual(meets(head, wish, other)[0], "sure")
        self.assertNotEqual(plain.value(other, inputs), plain.value(program, inputs))
        return told

    def test_listed_ones(self):
        for text, programs in [
                ("atmost in 0 in 2", ("in 0", "most in 0 in 1", "plus 7 in 0")),
                ("both atmost in 0 in 2 atmost in 2 plus 1 in 0", ("in 0", "plus 1 in 0")),
                ("yes", ("num 0", "num 1", "in 0", "in 1", "plus -1000 in 1", "if atmost in 0 in 1 in 0 num 3")),
                ("either both atmost in 0 in 2 atmost in 2 in 0 both atmost in 1 in 2 atmost in 2 in 1",
                 ("in 0", "in 1", "least in 0 in 1", "most in 0 in 1"))]:
            for program in programs:
                self.assertEqual(meets(TWO, read(text), read(program))[0], "sure")
                self.assertIsNotNone(self.check(TWO, read(text), read(program)))
        self.assertIsNone(self.check(TWO, MOST_WISH, read("most in 0 in 1")))
        self.assertIsNone(self.check(TWO, read(ONE[0]), read("in 0")))

    def test_at_one_input_alone(self):
        wish = read("either both atmost in 0 in 1 atmost in 1 in 0 both both atmost in 0 num 9 atmost num 9 in 0 "
                    "both atmost in 1 num 5 atmost num 5 in 1")
        head = (("num",), "num")
        other, inputs = self.check(head, wish, ("in", 0))
        self.assertEqual((inputs, plain.value(other, inputs)), ((9,), 5))
        back, inputs = self.check(head, wish, other)
        self.assertEqual((inputs, plain.value(back, inputs)), ((9,), 9))

    def test_of_no_inputs(self):
        for number in (3, 4):
            self.check(((), "num"), read("both atmost num 3 in 0 atmost in 0 num 4"), ("num", number))
        self.assertIsNone(self.check(((), "num"), read("both atmost num 3 in 0 atmost in 0 num 3"), ("num", 3)))
        for program in (("yes",), ("no",)):
            self.check(((), "truth"), ("yes",), program)
        self.assertIsNone(self.check(((), "truth"), ("in", 0), ("yes",)))

    def test_wishes_for_truths(self):
        head = (("num", "truth"), "truth")
        for program in ("in 1", "not in 1", "yes", "no", "atmost in 0 num 4"):
            self.check(head, ("yes",), read(program))
        for program in ("in 1", "yes"):
            self.check(head, read("either not in 1 in 2"), read(program))

    def test_drawn_wishes(self):
        told = []
        for draw, head, wish in chance.wishes(26, 400):
            word, program = anyhow(head, wish)
            if word == "does":
                told.append(self.check(head, wish, program))
                if told[-1] is not None:
                    self.check(head, wish, told[-1][0])
        self.assertGreater(told.count(None), 10)
        self.assertGreater(len(told) - told.count(None), 50)

    def test_by_name(self):
        self.assertIsNone(another(program=read("most in 0 in 1"), wish=MOST_WISH, head=TWO))


if __name__ == "__main__":
    unittest.main()
