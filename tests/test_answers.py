"""Point 24: what is made, looked at, and of points 2 and 3 what they say of leastmaker.answers."""

import inspect
import unittest

from leastmaker.answers import answer_holds
from leastmaker.making import made
from leastmaker.shelves import shelf_of
from leastmaker.stocks import STOCK, weight
from leastmaker.texts import read
from leastmaker.trees import tree_of
from leastmaker.wishes import meets, met_by
from tests import plain
from tests.test_making import ALL_WORDS, MOST_WISH, ONE, TWO, aimed_wishes, is_wish, small_wishes
from tests.test_shelves import CHOICES, HEAVY, NONE


def tree_for(head, wish, program):
    """The tree of a program that meets the wish; of another one, one that is right but for False ends."""
    word, paper = meets(head, wish, program)
    return paper if word == "sure" else tree_of(head[0], met_by(wish, program, many=len(head[0])))


def paper_for(head, wish, program, points, stock=STOCK):
    """An answer with this program: all is right but, perhaps, the program."""
    load = weight(program, stock=stock)
    closed = 0 if load is None else load - 1
    shelf = shelf_of(head[0], points, stock=stock, most=closed)
    return ("made", program, points, shelf, tree_for(head, wish, program))


class AnswerHolds(unittest.TestCase):
    def check(self, head, wish, answer, due, stock=STOCK, most=5):
        self.assertIs(answer_holds(head, wish, answer, stock=stock, most=most), due, answer)

    def test_told_answers(self):
        words = []
        for head, wish, stock, most in [*small_wishes(51, 100), *aimed_wishes(52, 100)]:
            told = made(head, wish, stock=stock, most=most)
            words.append(told[0])
            self.check(head, wish, told, True, stock, most)
            if told[0] == "made":
                load = weight(told[1], stock=stock)
                self.check(head, wish, told, True, stock, load)
                self.check(head, wish, told, True, stock, 6)
                self.check(head, wish, told, False, stock, load - 1)
            else:
                for other in range(1, most):
                    lighter = tuple(entry for entry in told[2] if entry[0] <= other)
                    self.check(head, wish, ("none", told[1], lighter), True, stock, other)
        self.assertGreater(words.count("none"), 20)
        self.assertGreater(words.count("made"), 20)

    def test_papers_in_another_order(self):
        word, program, points, shelf, tree = made(TWO, MOST_WISH)
        self.check(TWO, MOST_WISH, (word, program, points, shelf[::-1], tree), True)
        turned = shelf_of(TWO[0], points[::-1], most=2)
        self.check(TWO, MOST_WISH, (word, program, points[::-1], turned, tree), True)
        more = (*points, (5, 5))
        self.check(TWO, MOST_WISH, (word, program, more, shelf_of(TWO[0], more, most=2), tree), True)

    def test_another_program_of_the_same_weight(self):
        points = made(TWO, MOST_WISH)[2]
        for text in ("most in 0 in 1", "most in 1 in 0"):
            self.check(TWO, MOST_WISH, paper_for(TWO, MOST_WISH, read(text), points), True)
        wish = is_wish(ONE, "plus 2 in 0")
        points = made(ONE, wish)[2]
        self.check(ONE, wish, paper_for(ONE, wish, read("plus 1 plus 1 in 0"), points), True)
        wish = is_wish(ONE, "in 0")
        both = (("num",), "num")
        self.check(both, wish, paper_for(both, wish, ("in", 0), ()), True)

    def test_each_program_that_meets_the_wish(self):
        for head, wish, stock, most in aimed_wishes(53, 40, most=3):
            told = made(head, wish, stock=stock, most=most)
            if told[0] == "made":
                for load, kind, program in plain.programs_of(head[0], stock, most):
                    if kind == head[1]:
                        due = meets(head, wish, program)[0] == "sure" and load == weight(told[1], stock=stock)
                        self.check(head, wish, paper_for(head, wish, program, told[2], stock), due, stock, most)

    def test_a_heavier_program(self):
        points = made(TWO, MOST_WISH)[2]
        for text in ("plus 1 plus -1 most in 0 in 1", "most in 0 most in 0 in 1"):
            heavy = read(text)
            self.check(TWO, MOST_WISH, paper_for(TWO, MOST_WISH, heavy, points), False)
            word, program, points, shelf, tree = made(TWO, MOST_WISH)
            self.check(TWO, MOST_WISH, (word, heavy, points, shelf, tree_for(TWO, MOST_WISH, heavy)), False)
        # Heavier than most, but else all right.
        told = made(TWO, MOST_WISH)
        self.check(TWO, MOST_WISH, told, True, most=3)
        self.check(TWO, MOST_WISH, told, False, most=2)

    def test_a_program_that_fails(self):
        for text in ("least in 0 in 1", "most in 0 in 0", "in 0", "plus 1 most in 0 in 1"):
            for points in ((), made(TWO, MOST_WISH)[2]):
                self.check(TWO, MOST_WISH, paper_for(TWO, MOST_WISH, read(text), points), False)

    def test_a_program_that_is_not_of_the_stock(self):
        wish = is_wish(ONE, "plus 2 in 0")
        self.check(ONE, wish, paper_for(ONE, wish, read("plus 2 in 0"), ()), False)
        word, program, points, shelf, tree = made(ONE, wish)
        lean = read("plus 2 in 0")
        for closed in range(4):
            paper = shelf_of(ONE[0], points, most=closed)
            self.check(ONE, wish, (word, lean, points, paper, tree_for(ONE, wish, lean)), False)
        no_most = (STOCK[0], STOCK[1], STOCK[2][:1] + STOCK[2][2:])
        self.check(TWO, MOST_WISH, made(TWO, MOST_WISH), False, stock=no_most)

    def test_a_program_of_the_other_kind(self):
        word, program, points, shelf, tree = made(TWO, read("yes"))
        self.check(TWO, read("yes"), (word, program, points, shelf, tree), True)
        truth = read("atmost in 0 in 1")
        for closed in (0, 2):
            self.check(TWO, read("yes"), (word, truth, (), shelf_of(TWO[0], (), most=closed), tree), False)
        head = (("num", "truth"), "num")
        for program in (("in", 0), ("in", 1)):
            paper = ("made", program, (), (), ("end", True))
            self.check(head, read("yes"), paper, program == ("in", 0))
            self.check((head[0], "truth"), read("yes"), paper, program == ("in", 1))

    def test_a_tree_that_shows_nothing(self):
        word, program, points, shelf, tree = made(TWO, MOST_WISH)
        own = tree_of(TWO[0], met_by(MOST_WISH, program, many=2))
        self.check(TWO, MOST_WISH, (word, program, points, shelf, own), True)
        for wrong in [("end", False), ("end", (0, 0)), ("end", (-1, 1)), tree_of(TWO[0], program),
                      ("row", 0, 1, 0, tree, ("end", False)), ("row", 0, 2, 0, tree, tree),
                      ("truth", 0, tree, tree), ("row", 0, 1, 0, ("end", False), tree)]:
            self.check(TWO, MOST_WISH, (word, program, points, shelf, wrong), False)
        # Where nothing leads, the end may be any.
        self.check(TWO, MOST_WISH, (word, program, points, shelf, ("row", 0, 0, -1, ("end", False), tree)), True)

    def test_a_shelf_from_which_an_entry_is_left_out(self):
        word, program, points, shelf, tree = made(TWO, MOST_WISH)
        for at in range(len(shelf)):
            self.check(TWO, MOST_WISH, (word, program, points, shelf[:at] + shelf[at + 1:], tree), False)
        wish = is_wish(ONE, "plus 7 in 0")
        word, points, shelf = made(ONE, wish)
        for at in range(len(shelf)):
            self.check(ONE, wish, (word, points, shelf[:at] + shelf[at + 1:]), False)

    def test_a_shelf_closed_to_another_weight(self):
        word, program, points, shelf, tree = made(TWO, MOST_WISH)
        for closed in range(5):
            other = shelf_of(TWO[0], points, most=closed)
            self.check(TWO, MOST_WISH, (word, program, points, other, tree), closed == 2)
        wish = is_wish(ONE, "plus 7 in 0")
        word, points, shelf = made(ONE, wish, most=4)
        for closed in range(7):
            other = shelf_of(ONE[0], points, most=closed)
            self.check(ONE, wish, (word, points, other), closed == 4, most=4)
            if closed > 0:
                self.check(ONE, wish, (word, points, shelf), closed == 4, most=closed)

    def test_points_at_which_a_row_does(self):
        word, program, points, shelf, tree = made(TWO, MOST_WISH)
        for fewer in ((), ((4, 4),), ((4, 1), (9, 3)), ((0, 1),)):
            paper = (word, program, fewer, shelf_of(TWO[0], fewer, most=2), tree)
            self.check(TWO, MOST_WISH, paper, False)
        # in 0 and in 1 are the only lighter ones that do at one of these, and neither does at both.
        chosen = ((9, 3), (4, 7))
        self.check(TWO, MOST_WISH, (word, program, chosen, shelf_of(TWO[0], chosen, most=2), tree), True)
        self.check(TWO, MOST_WISH, (word, program, points, shelf_of(TWO[0], points[:1], most=2), tree), False)

    def test_none_where_something_does(self):
        for most in (3, 4, 5):
            for points in ((), made(TWO, MOST_WISH)[2], ((0, 1), (1, 0), (3, -5))):
                shelf = shelf_of(TWO[0], points, most=most)
                self.check(TWO, MOST_WISH, ("none", points, shelf), False, most=most)
        points = made(TWO, MOST_WISH)[2]
        self.check(TWO, MOST_WISH, ("none", points, shelf_of(TWO[0], points, most=2)), True, most=2)
        self.check(TWO, MOST_WISH, ("none", points, shelf_of(TWO[0], points, most=2)), False, most=3)

    def test_none_with_points_at_which_a_row_does(self):
        wish = is_wish(ONE, "plus 7 in 0")
        points = made(ONE, wish, most=4)[1]
        self.check(ONE, wish, ("none", points, shelf_of(ONE[0], points, most=4)), True, most=4)
        for fewer in ((), ((-7,),), ((-6,),), ((-4,),)):
            self.check(ONE, wish, ("none", fewer, shelf_of(ONE[0], fewer, most=4)), False, most=4)

    def test_of_weight_one(self):
        self.check(TWO, read("yes"), ("made", ("in", 0), (), (), ("end", True)), True)
        self.check(TWO, read("yes"), ("made", ("in", 1), (), (), ("end", True)), True)
        self.check(TWO, read("yes"), ("made", ("num", 1), (), (), ("end", True)), True, most=1)
        self.check(TWO, read("yes"), ("made", ("num", 1), ((3, 4),), (), ("end", True)), True)
        self.check(TWO, read("yes"), ("made", ("num", 2), (), (), ("end", True)), False)
        self.check(TWO, read("yes"), ("made", ("in", 0), (), shelf_of(TWO[0], (), most=1), ("end", True)), False)
        self.check(TWO, read("no"), ("made", ("in", 0), (), (), ("end", True)), False)

    def test_no_program_of_the_kind(self):
        head = (("num",), "truth")
        shelf = ((1, "num", (), ("in", 0)),)
        self.check(head, read("yes"), ("none", (), shelf), True, most=2)
        self.check(head, read("yes"), ("none", (), shelf), False, most=3)
        self.check(head, read("yes"), ("none", (), ()), False, most=2)
        self.check(((), "num"), read("yes"), ("none", (), ()), True, stock=NONE, most=6)
        self.check(((), "num"), read("yes"), ("none", ((),), ()), True, stock=HEAVY, most=6)
        self.check(((), "num"), read("yes"), ("none", (), ()), False, most=1)

    def test_truths(self):
        head = (("truth", "truth"), "truth")
        wish = is_wish(head, "either in 0 in 1")
        told = made(head, wish, stock=ALL_WORDS)
        self.check(head, wish, told, True, stock=ALL_WORDS)
        self.check(head, wish, paper_for(head, wish, read("either in 1 in 0"), told[2], ALL_WORDS), True,
                   stock=ALL_WORDS)
        self.check(head, wish, paper_for(head, wish, read("not both not in 0 not in 1"), told[2], ALL_WORDS), False,
                   stock=ALL_WORDS, most=6)
        self.check(head, wish, paper_for(head, wish, read("both in 1 in 0"), told[2], ALL_WORDS), False,
                   stock=ALL_WORDS)

    def test_another_wish(self):
        told = made(TWO, MOST_WISH)
        self.check(TWO, is_wish(TWO, "most in 0 in 1"), (*told[:4], ("end", True)), True)
        self.check(TWO, is_wish(TWO, "least in 0 in 1"), told, False)
        self.check(TWO, read("yes"), told, False)

    def test_what_is_left_out(self):
        told = made(TWO, MOST_WISH)
        self.assertIs(answer_holds(TWO, MOST_WISH, told), True)
        self.assertIs(answer_holds(answer=told, wish=MOST_WISH, head=TWO), True)
        self.assertIs(answer_holds(TWO, MOST_WISH, told, stock=CHOICES), False)
        found = inspect.signature(answer_holds).parameters
        self.assertEqual((found["stock"].default, found["most"].default), (STOCK, 5))
        with self.assertRaises(TypeError):
            answer_holds(TWO, MOST_WISH, told, STOCK)


if __name__ == "__main__":
    unittest.main()
