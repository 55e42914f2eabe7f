"""Points 1 to 3 over the whole program, and the names of the interface."""

import copy
import importlib
import inspect
import itertools
import unittest

from leastmaker.always import always, same, sure_holds
from leastmaker.answers import answer_holds
from leastmaker.asker import Asker
from leastmaker.bounds import Bounds, ring_holds
from leastmaker.census import census, unparted
from leastmaker.desk import Desk
from leastmaker.errors import NoRow
from leastmaker.maker import Maker
from leastmaker.making import least_of, made, rounds
from leastmaker.meaning import value
from leastmaker.programs import kind_of, knots, look_head, put
from leastmaker.settled import another, clashless, settled
from leastmaker.shelves import shelf_holds, shelf_of
from leastmaker.stocks import STOCK, comes_first, look_stock, weight
from leastmaker.texts import read, show
from leastmaker.trees import tree_at, tree_holds, tree_of
from leastmaker.wishes import anyhow, meets, met_by, wish_of
from tests import chance, plain
from tests.test_making import MOST_WISH, is_wish

ONE = (("num",), "num")
TWO = (("num", "num"), "num")

# For each module what it has: a function by its arguments, those behind the star with their defaults.
FUNCTIONS = {
    "programs": {"look_head": "head", "kind_of": "kinds, program", "knots": "program", "put": "program, some"},
    "texts": {"show": "program", "read": "text"},
    "meaning": {"value": "program, inputs"},
    "stocks": {"look_stock": "stock", "weight": "program, *, stock=STOCK",
               "comes_first": "one, other, *, stock=STOCK"},
    "bounds": {"ring_holds": "bounds, ring"},
    "trees": {"tree_of": "kinds, program", "tree_at": "tree, inputs", "tree_holds": "kinds, program, tree"},
    "always": {"always": "kinds, program", "sure_holds": "kinds, program, tree", "alike": "kind, one, other",
               "same": "kinds, one, other"},
    "wishes": {"met_by": "wish, program, *, many", "meets": "head, wish, program", "wish_of": "head, examples",
               "anyhow": "head, wish"},
    "settled": {"clashless": "head, wish", "settled": "head, wish", "another": "head, wish, program"},
    "shelves": {"row_of": "program, points", "shelf_of": "kinds, points, *, stock=STOCK, most=MOST",
                "shelf_holds": "kinds, points, shelf, *, stock=STOCK, most=MOST"},
    "making": {"made": "head, wish, *, stock=STOCK, most=MOST", "rounds": "head, wish, *, stock=STOCK, most=MOST",
               "least_of": "kinds, program, *, stock=STOCK, most=MOST"},
    "answers": {"answer_holds": "head, wish, answer, *, stock=STOCK, most=MOST"},
    "census": {"census": "kinds, *, stock=STOCK, most=FEW", "unparted": "kinds, points, *, stock=STOCK, most=FEW"},
}
CLASSES = {
    ("bounds", "Bounds"): {
        "__init__": "self, many, rows=()", "rows": "self", "holds": "self, numbers", "is_empty": "self",
        "also": "self, i, j, c", "ring": "self", "point": "self", "least": "self, i, j", "__eq__": "self, other",
        "__len__": "self", "__repr__": "self"},
    ("asker", "Asker"): {
        "__init__": "self, head, *, stock=STOCK, most=FEW", "question": "self", "hear": "self, answer", "told": "self",
        "heard": "self", "log": "self", "is_hearing": "self", "__len__": "self"},
    ("maker", "Maker"): {
        "__init__": "self, head, *, stock=STOCK, most=MOST", "wish": "self, program", "examples": "self, some",
        "back": "self, number", "kept": "self", "whole": "self", "made": "self", "log": "self", "is_busy": "self",
        "__len__": "self", "__eq__": "self, other"},
    ("desk", "Desk"): {"__init__": "self", "say": "self, row"},
}
VALUES = {("stocks", "STOCK"): STOCK, ("shelves", "MOST"): 5, ("census", "FEW"): 3}


class Interface(unittest.TestCase):
    def check(self, told, due):
        written = str(inspect.signature(told))[1:-1]
        for name, worth in (("STOCK", STOCK), ("MOST", 5), ("FEW", 3)):
            due = due.replace(f"={name}", f"={worth}")
        self.assertEqual(written, due, told)

    def test_functions(self):
        for module, functions in FUNCTIONS.items():
            for name, due in functions.items():
                self.check(getattr(importlib.import_module(f"leastmaker.{module}"), name), due)

    def test_classes(self):
        for (module, name), methods in CLASSES.items():
            whole = getattr(importlib.import_module(f"leastmaker.{module}"), name)
            for method, due in methods.items():
                self.check(vars(whole)[method], due)

    def test_values(self):
        for (module, name), due in VALUES.items():
            self.assertEqual(getattr(importlib.import_module(f"leastmaker.{module}"), name), due)
        self.assertIs(look_stock(STOCK), True)


class TheLeastOnes(unittest.TestCase):
    def test_the_same_just_where_the_programs_are(self):
        draw = chance.drawer(91)
        alike = []
        for turn in range(60):
            kinds, kind = draw.choice(chance.KINDS), draw.choice(("num", "truth"))
            one, other = [chance.program(draw, kinds, kind, draw.randint(1, 6), far=1) for part in range(2)]
            least, rest = least_of(kinds, one), least_of(kinds, other)
            if least is not None and rest is not None:
                word, paper = same(kinds, one, other)
                self.assertIs(least == rest, word == "same")
                if word == "unlike":
                    self.assertNotEqual(plain.value(least, paper), plain.value(rest, paper))
                alike.append(word)
        self.assertGreater(alike.count("same"), 4)
        self.assertGreater(alike.count("unlike"), 4)

    def test_of_itself_and_of_what_is_made_for_it(self):
        for kinds, text in [(("num",), "most in 0 num 0"), (("num", "num"), "plus 1 least in 0 in 1"),
                            (("num", "truth"), "if in 1 in 0 num 1"), (("num",), "atmost in 0 num 1")]:
            least = least_of(kinds, read(text))
            self.assertEqual(least_of(kinds, least), least)
            head = (kinds, kind_of(kinds, least))
            self.assertEqual(made(head, is_wish(head, text))[1], least)
            self.assertEqual(rounds(head, is_wish(head, text))[-1], (least, None))

    def test_a_stock_in_another_order(self):
        turned = tuple(part[::-1] for part in STOCK)
        for text in ("most in 0 in 1", "plus 2 in 1", "num 0", "num 2", "if atmost in 0 in 1 in 0 in 1"):
            one, other = least_of(TWO[0], read(text)), least_of(TWO[0], read(text), stock=turned)
            self.assertEqual(weight(one), weight(other, stock=turned))
            self.assertEqual(same(TWO[0], one, other)[0], "same")
            if one != other:
                self.assertIs(comes_first(one, other), True)
                self.assertIs(comes_first(other, one, stock=turned), True)
        # Two programs of one weight for the same: each order has its own first one.
        stock = (((1, 1),), ((1, 1), (-1, 1)), ())
        self.assertEqual(least_of((), read("num 0"), stock=stock), read("plus -1 num 1"))
        for words, text in [((("least", 1), ("most", 1)), "least in 0 in 0"), ((("most", 1), ("least", 1)),
                                                                              "most in 0 in 0")]:
            heavy = ((), (), words)
            self.assertEqual(made(ONE, read("yes"), stock=heavy)[1], ("in", 0))
            self.assertEqual(least_of(("num",), read(text), stock=heavy), ("in", 0))

    def test_from_texts_to_the_least_one(self):
        for head, text, due in [
                (ONE, "both atmost in 0 in 1 both atmost num 0 in 1 either atmost in 1 in 0 atmost in 1 num 0",
                 "most in 0 num 0"),
                (TWO, "both both atmost in 2 in 0 atmost in 2 in 1 either atmost in 0 in 2 atmost in 1 in 2",
                 "least in 0 in 1"),
                ((("num", "num"), "truth"), "if in 2 not atmost in 0 in 1 atmost in 0 in 1",
                 "atmost in 1 plus -1 in 0")]:
            look_head(head)
            wish = read(text)
            self.assertEqual(kind_of((*head[0], head[1]), wish), "truth")
            self.assertEqual(settled(head, wish)[0], "one")
            told = made(head, wish)
            self.assertEqual(show(told[1]), due)
            word, program = anyhow(head, wish)
            self.assertEqual(word, "does")
            self.assertEqual(show(least_of(head[0], program)), due)
            self.assertIsNone(another(head, wish, told[1]))


class Doers(unittest.TestCase):
    def test_by_its_examples(self):
        for text in ("least in 0 in 1", "plus 1 in 1", "most in 1 num 0", "num 1"):
            doer = read(text)
            asker = Asker(TWO)
            while asker.question() is not None:
                asker.hear(value(doer, asker.question()))
            self.assertEqual(same(TWO[0], asker.told(), doer)[0], "same")
            # What was heard is enough for a maker, too, to the same weight.
            wish = wish_of(TWO, asker.heard())
            self.assertEqual(made(TWO, wish, most=3)[1], asker.told())
            maker = Maker(TWO, most=3)
            maker.examples(asker.heard())
            self.assertEqual(maker.made()[1], asker.told())
            self.assertEqual(least_of(TWO[0], doer, most=3), asker.told())

    def test_points_of_a_census_as_examples(self):
        points, shelf = census(("num",))
        for load, kind, row, program in shelf:
            head = (("num",), kind)
            wish = wish_of(head, list(zip(points, row)))
            self.assertEqual(made(head, wish, most=3)[1], program)
            self.assertEqual(least_of(("num",), program, most=3), program)
        self.assertIs(shelf_holds(("num",), points, shelf, most=3), True)


class TogetherOrOneByOne(unittest.TestCase):
    def test_wishes_put_together(self):
        parts = [read(text) for text in ("atmost in 0 in 2", "atmost in 1 in 2",
                                         "either atmost in 2 in 0 atmost in 2 in 1")]
        for order in itertools.permutations(parts):
            maker = Maker(TWO)
            numbers = [maker.wish(wish) for wish in order]
            together = ("both", order[0], ("both", order[1], order[2]))
            self.assertEqual(maker.made()[1], made(TWO, together)[1])
            self.assertEqual(maker.made()[1], read("most in 0 in 1"))
            self.assertEqual(same((*TWO[0], "num"), maker.whole(), together)[0], "same")
            for number in numbers:
                maker.back(number)
            self.assertEqual(maker.made()[1], ("in", 0))

    def test_examples_at_once_or_one_by_one(self):
        draw = chance.drawer(92)
        for turn in range(20):
            kinds, kind = draw.choice(chance.KINDS), draw.choice(("num", "truth"))
            doer = chance.program(draw, kinds, kind, draw.randint(1, 6), far=1)
            inputs = list(dict.fromkeys(chance.inputs(draw, kinds, 5) for part in range(6)))
            examples = [(one, value(doer, one)) for one in inputs]
            once, each, turned = Maker((kinds, kind)), Maker((kinds, kind)), Maker((kinds, kind))
            once.examples(examples)
            for example in examples:
                each.examples([example])
            for example in examples[::-1]:
                turned.examples([example])
                turned.made()
            self.assertEqual(once, each)
            told = [maker.made() for maker in (once, each, turned)]
            self.assertEqual(len({answer[0] for answer in told}), 1)
            if told[0][0] == "made":
                self.assertEqual(len({answer[1] for answer in told}), 1)
            self.assertEqual(told[0][:2][-1] if told[0][0] == "made" else None,
                             rounds((kinds, kind), wish_of((kinds, kind), examples))[-1][0])

    def test_a_desk_and_a_maker(self):
        desk, maker = Desk(), Maker(TWO)
        desk.say("head num num : num")
        for text in ("atmost in 0 in 2", "atmost in 1 in 2"):
            self.assertEqual(desk.say(f"wish {text}"), str(maker.wish(read(text))))
        self.assertEqual(desk.say("example 4 9 : 9"), str(maker.examples([((4, 9), 9)])[0]))
        told = maker.made()
        self.assertEqual(desk.say("made p"), f"made {weight(told[1])}")
        self.assertEqual(desk.say("show p"), show(told[1]))
        self.assertEqual(desk.say("settled"), settled(TWO, maker.whole())[0])
        with self.assertRaises(NoRow):
            desk.say("wish")


class JustOneOfTwo(unittest.TestCase):
    def test_of_truth_programs_wishes_and_stocks(self):
        for draw, head, wish in chance.wishes(93, 80, fars=(1, 3)):
            kinds, kind = head
            word, paper = always((*kinds, kind), wish)
            self.assertIs(word == "sure", sure_holds((*kinds, kind), wish, tree_of((*kinds, kind), wish)))
            word, program = anyhow(head, wish)
            told = made(head, wish, most=4)
            self.assertIs(answer_holds(head, wish, told, most=4), True)
            if told[0] == "made":
                self.assertEqual(word, "does")
                self.assertEqual(meets(head, wish, told[1])[0], "sure")
            if word == "void":
                self.assertEqual(told[0], "none")
            if settled(head, wish)[0] == "one" and told[0] == "made":
                self.assertEqual(same(kinds, told[1], program)[0], "same")


class ByHand(unittest.TestCase):
    def test_papers(self):
        # The greater of two, shown by a tree with one case for each of both.
        tree = ("row", 0, 1, 0, ("end", True), ("end", True))
        shelf = ((1, "num", (0, 5), ("in", 0)), (1, "num", (5, 0), ("in", 1)), (1, "num", (0, 0), ("num", 0)))
        stock = (((0, 1),), (), (("most", 1),))
        answer = ("made", read("most in 1 in 0"), ((0, 5), (5, 0)), shelf, tree)
        self.assertIs(answer_holds(TWO, MOST_WISH, answer, stock=stock), True)
        self.assertIs(answer_holds(TWO, MOST_WISH, answer), False)
        self.assertIs(shelf_holds(TWO[0], ((0, 5), (5, 0)), shelf, stock=stock, most=2), True)
        none = ("none", ((0, 5), (5, 0)), shelf)
        self.assertIs(answer_holds(TWO, MOST_WISH, none, stock=stock, most=2), True)
        self.assertIs(answer_holds(TWO, MOST_WISH, none, stock=stock, most=3), False)
        greater = ("row", 0, 1, 0, ("end", (1, 0)), ("end", (0, 0)))
        self.assertIs(tree_holds(TWO[0], read("most in 0 in 1"), greater), True)
        self.assertIs(sure_holds(TWO[0], met_by(MOST_WISH, read("most in 0 in 1"), many=2), tree), True)
        self.assertIs(ring_holds(Bounds(2, [(0, 1, -1), (1, 0, 0)]), (0, 1)), True)
        one = ("row", 2, 3, 0, ("end", True), ("end", True))
        self.assertIs(sure_holds(("num",) * 4, clashless(TWO, MOST_WISH), one), True)


class Unchanged(unittest.TestCase):
    def each_call(self):
        """A call of each function, with what it is handed in, as (function, arguments, names)."""
        wish, program = MOST_WISH, read("most in 0 in 1")
        points = ((0, 1), (3, -2))
        shelf = shelf_of(TWO[0], points, most=3)
        answer = made(TWO, wish)
        tree = tree_of(TWO[0], program)
        examples = [((1, 2), 2), ((4, 3), 4)]
        return [
            (look_head, [TWO], {}), (kind_of, [TWO[0], program], {}), (knots, [program], {}),
            (put, [program, (("num", 1), ("in", 0))], {}), (show, [program], {}), (read, ["least in 0 in 1"], {}),
            (value, [program, (1, 2)], {}), (weight, [program], {"stock": STOCK}), (look_stock, [STOCK], {}),
            (comes_first, [program, ("in", 0)], {"stock": STOCK}), (tree_of, [TWO[0], program], {}),
            (tree_at, [tree, (1, 2)], {}), (tree_holds, [TWO[0], program, tree], {}),
            (always, [TWO[0], ("atmost", ("in", 0), program)], {}), (same, [TWO[0], program, ("in", 0)], {}),
            (met_by, [wish, program], {"many": 2}), (meets, [TWO, wish, program], {}),
            (wish_of, [TWO, examples], {}), (anyhow, [TWO, wish], {}), (clashless, [TWO, wish], {}),
            (settled, [TWO, wish], {}), (another, [TWO, read("atmost in 0 in 2"), program], {}),
            (shelf_of, [TWO[0], points], {"stock": STOCK, "most": 3}),
            (shelf_holds, [TWO[0], points, shelf], {"most": 3}), (made, [TWO, wish], {"most": 4}),
            (rounds, [TWO, wish], {"stock": STOCK}), (least_of, [TWO[0], program], {}),
            (answer_holds, [TWO, wish, answer], {}), (census, [TWO[0]], {}), (unparted, [TWO[0], points], {}),
        ]

    def test_nothing_handed_in_is_changed_and_the_same_is_told_again(self):
        calls = self.each_call()
        ahead = copy.deepcopy([(arguments, names) for called, arguments, names in calls])
        first = [called(*arguments, **names) for called, arguments, names in calls]
        kept = copy.deepcopy(first)
        self.assertEqual([(arguments, names) for called, arguments, names in calls], ahead)
        again = [called(*arguments, **names) for called, arguments, names in reversed(calls)][::-1]
        self.assertEqual(again, kept)
        for told, once_more in zip(first, again):
            if isinstance(told, list):
                self.assertIsNot(told, once_more)
                told.clear()
        self.assertEqual([called(*arguments, **names) for called, arguments, names in calls], kept)

    def test_each_function_of_the_interface_is_called(self):
        called = {call[0].__name__ for call in self.each_call()}
        due = {name for functions in FUNCTIONS.values() for name in functions}
        self.assertEqual(due - called, {"ring_holds", "sure_holds", "alike", "row_of"})

    def test_many_objects_by_turns(self):
        makers = [Maker(TWO), Maker(TWO, most=4), Maker(ONE)]
        askers = [Asker(ONE), Asker(ONE, most=2)]
        desks = [Desk(), Desk()]
        for turn in range(2):
            makers[0].wish(read("atmost in 0 in 2"))
            makers[1].wish(read("atmost in 1 in 2"))
            makers[2].examples([((turn,), turn + 1)])
            desks[0].say("keep a in 0")
            desks[1].say("head num : truth")
            for asker in askers:
                if asker.question() is not None:
                    asker.hear(value(("in", 0), asker.question()))
        self.assertEqual([maker.made()[1] for maker in makers], [("in", 0), ("in", 1), read("plus 1 in 0")])
        self.assertEqual([len(maker) for maker in makers], [2, 2, 2])
        self.assertEqual(desks[0].say("show a"), "in 0")
        self.assertEqual(desks[1].say("keep a yes"), "truth")


if __name__ == "__main__":
    unittest.main()
