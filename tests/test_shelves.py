"""Points 21 and 22: rows and shelves, and of points 2 and 10 what they say of leastmaker.shelves."""

import inspect
import itertools
import unittest

from leastmaker.programs import kind_of
from leastmaker.shelves import MOST, row_of, shelf_holds, shelf_of
from leastmaker.stocks import STOCK, comes_first, weight
from leastmaker.texts import read
from tests import chance, plain

# Stocks with and without numbers, steps, words, with other weights, and STOCK in another order.
NONE = ((), (), ())
LEAVES = (((3, 1), (-2, 2)), (), (("no", 1), ("yes", 2)))
STEPS = (((4, 2),), ((2, 1), (-5, 3)), ())
WORDS = ((), (), (("most", 1), ("atmost", 2), ("not", 1), ("both", 1), ("if", 1)))
LOGIC = (((0, 1),), ((-1, 2),), (("either", 1), ("no", 1), ("not", 1), ("both", 2), ("atmost", 1), ("yes", 3)))
CHOICES = (((5, 2), (-1, 1)), ((7, 1),), (("if", 1), ("yes", 1), ("least", 2), ("atmost", 1)))
TURNED = (STOCK[0][::-1], STOCK[1][::-1], STOCK[2][::-1])
HEAVY = (((0, 9), (1, 8)), ((1, 9),), (("if", 9), ("least", 7), ("yes", 8)))
STOCKS = [STOCK, NONE, LEAVES, STEPS, WORDS, LOGIC, CHOICES, TURNED, HEAVY]


def some_points(draw, kinds, many, far=6):
    """At most so many points, none twice."""
    return tuple(dict.fromkeys(chance.inputs(draw, kinds, far) for turn in range(many)))


def drawn_shelves(seed, turns, most=4):
    """(kinds, points, stock, most) for shelves that are small enough to go through all programs."""
    draw = chance.drawer(seed)
    for turn in range(turns):
        kinds, stock = draw.choice(chance.KINDS), STOCKS[turn % len(STOCKS)]
        yield kinds, some_points(draw, kinds, draw.choice((0, 1, 2, 3, 5, 8))), stock, draw.randint(1, most)


class RowOf(unittest.TestCase):
    def test_listed_ones(self):
        points = ((1, True, 5), (4, False, -2), (0, True, 0))
        for text, row in [
                ("in 0", (1, 4, 0)), ("in 1", (True, False, True)), ("num 7", (7, 7, 7)), ("yes", (True,) * 3),
                ("least in 0 in 2", (1, -2, 0)), ("atmost in 0 in 2", (True, False, True)),
                ("if in 1 in 0 plus 3 in 2", (1, 1, 0)), ("not in 1", (False, True, False))]:
            told = row_of(read(text), points)
            self.assertEqual(told, row)
            self.assertEqual([type(thing) for thing in told], [type(thing) for thing in row])
            self.assertIs(type(told), tuple)
            self.assertEqual(row_of(read(text), points[:1]), row[:1])
            self.assertEqual(row_of(read(text), ()), ())
        self.assertEqual(row_of(points=points, program=("in", 0)), (1, 4, 0))

    def test_of_no_inputs(self):
        self.assertEqual(row_of(("num", 3), ((),)), (3,))
        self.assertEqual(row_of(("no",), ((),)), (False,))

    def test_drawn_ones(self):
        draw = chance.drawer(31)
        for turn in range(200):
            kinds = draw.choice(chance.KINDS)
            program = chance.program(draw, kinds, draw.choice(("num", "truth")), draw.randint(1, 24), far=1000)
            points = some_points(draw, kinds, 8, 10 ** 6)
            self.assertEqual(row_of(program, points), plain.row(program, points))


class ShelfOf(unittest.TestCase):
    def check(self, kinds, points, stock, most):
        told = shelf_of(kinds, points, stock=stock, most=most)
        self.assertIs(type(told), tuple)
        due = plain.shelf(kinds, points, stock, most)
        self.assertEqual(told, due, (kinds, points, stock, most))
        for (load, kind, row, program), entry in zip(told, due):
            # Python's truths are equal to numbers.
            self.assertEqual([type(thing) for thing in row], [type(thing) for thing in entry[2]])
            self.assertEqual((load, kind), (weight(program, stock=stock), kind_of(kinds, program)))
        for one, other in zip(told, told[1:]):
            self.assertIs(comes_first(one[3], other[3], stock=stock), True)
        return told

    def test_the_weight_when_left_out(self):
        self.assertEqual(MOST, 5)

    def test_written_out(self):
        # Of one num at 3: 0 is in reach by a step from 1, too, but comes first by itself.
        self.assertEqual(shelf_of(("num",), ((3,),), most=2), (
            (1, "num", (3,), ("in", 0)), (1, "num", (0,), ("num", 0)), (1, "num", (1,), ("num", 1)),
            (2, "num", (4,), ("plus", 1, ("in", 0))), (2, "num", (2,), ("plus", 1, ("num", 1))),
            (2, "num", (-1,), ("plus", -1, ("num", 0)))))

    def test_against_all_programs(self):
        sizes = []
        for kinds, points, stock, most in drawn_shelves(32, 180):
            sizes.append(len(self.check(kinds, points, stock, most)))
        self.assertGreater(max(sizes), 100)
        self.assertIn(0, sizes)

    def test_each_weight_and_stock(self):
        points = {("num",): ((3,), (-1,), (0,)), ("truth", "num"): ((True, 2), (False, 1), (True, -4)), (): ((),)}
        for kinds, stock, most in itertools.product(points, STOCKS, range(1, 5)):
            self.check(kinds, points[kinds], stock, most)
        for kinds, stock, most in itertools.product(points, (NONE, LEAVES, STEPS, WORDS, HEAVY), (5, 6)):
            self.check(kinds, points[kinds], stock, most)

    def test_the_heaviest(self):
        self.check(("num",), ((2,), (-3,)), STOCK, 6)
        self.check(("num",), ((2,), (-3,)), TURNED, 6)
        self.check(("truth",), ((True,), (False,)), LOGIC, 6)
        self.check(("num", "truth"), ((2, True), (2, False), (-7, True)), CHOICES, 6)

    def test_no_points(self):
        for kinds, stock, most in itertools.product(chance.KINDS, STOCKS, (1, 2, 3)):
            told = self.check(kinds, (), stock, most)
            self.assertLessEqual(len(told), 2)
            self.assertEqual(len({kind for load, kind, row, program in told}), len(told))
        self.assertEqual(shelf_of(("num",), ()), (
            (1, "num", (), ("in", 0)), (3, "truth", (), ("atmost", ("in", 0), ("in", 0)))))

    def test_eight_points(self):
        draw = chance.drawer(33)
        for kinds in (("num",) * 3, ("num", "truth", "num"), ("truth",) * 3):
            points = tuple(chance.all_inputs(kinds, (-1, 4)))
            self.assertEqual(len(points), 8)
            for stock in (STOCK, LOGIC, CHOICES):
                self.check(kinds, points, stock, 4)
            self.check(kinds, some_points(draw, kinds, 8, 10 ** 6), STOCK, 3)

    def test_rows_of_both_kinds_that_look_alike(self):
        told = shelf_of(("num", "truth"), ((1, True), (0, False)), most=1)
        self.assertIn((1, "num", (1, 0), ("in", 0)), told)
        self.assertIn((1, "truth", (True, False), ("in", 1)), told)
        self.check(("num", "truth"), ((1, True), (0, False)), LOGIC, 4)

    def test_ifs_of_both_kinds(self):
        stock = ((), (), (("if", 1),))
        for kinds in (("truth", "num", "truth"), ("num", "truth", "num")):
            points = tuple(chance.all_inputs(kinds, (0, 1)))
            self.check(kinds, points, stock, 4)
            self.check(kinds, points, stock, 6)

    def test_what_is_left_out(self):
        points = ((4, -1),)
        kinds = ("num", "num")
        self.assertEqual(shelf_of(kinds, points), shelf_of(kinds, points, stock=STOCK, most=5))
        self.assertEqual(shelf_of(kinds, points, most=3), shelf_of(kinds, points, stock=STOCK, most=3))
        self.assertEqual(shelf_of(kinds, points, stock=STEPS), shelf_of(kinds, points, stock=STEPS, most=5))
        self.assertEqual(shelf_of(points=points, kinds=kinds), shelf_of(kinds, points))
        with self.assertRaises(TypeError):
            shelf_of(kinds, points, STOCK)
        for told in (shelf_of, shelf_holds):
            found = inspect.signature(told).parameters
            self.assertEqual((found["stock"].default, found["most"].default), (STOCK, 5))

    def test_asked_again(self):
        points = ((4, -1), (2, 2))
        first = shelf_of(("num", "num"), points, most=4)
        shelf_of(("num", "num"), points[:1], most=4)
        shelf_of(("num", "num"), points, stock=TURNED, most=3)
        self.assertEqual(shelf_of(("num", "num"), points, most=4), first)


class ShelfHolds(unittest.TestCase):
    def check(self, kinds, points, shelf, stock, most, due):
        self.assertIs(shelf_holds(kinds, points, shelf, stock=stock, most=most), due, (kinds, points, stock, most))

    def test_told_shelves(self):
        draw = chance.drawer(34)
        for kinds, points, stock, most in drawn_shelves(35, 150):
            shelf = shelf_of(kinds, points, stock=stock, most=most)
            self.check(kinds, points, shelf, stock, most, True)
            self.check(kinds, points, shelf[::-1], stock, most, True)
            self.check(kinds, points, tuple(draw.sample(shelf, len(shelf))), stock, most, True)

    def test_the_heaviest(self):
        for kinds in (("num",) * 3, ("truth", "num", "truth")):
            points = tuple(chance.all_inputs(kinds, (-1, 4)))
            self.check(kinds, points, shelf_of(kinds, points, most=6), STOCK, 6, True)

    def test_other_programs_of_the_same_weight_kind_and_row(self):
        kinds, points = ("num", "num"), ((3, 1), (-2, 2))
        first = {(kind, row): program for load, kind, row, program in shelf_of(kinds, points, most=4)}
        last = {}
        for load, kind, program in plain.programs_of(kinds, STOCK, 4):
            if load == weight(first[kind, plain.row(program, points)]):
                last[kind, plain.row(program, points)] = (load, kind, plain.row(program, points), program)
        self.assertEqual(len(last), len(first))
        self.assertTrue(any(entry[3] != first[key] for key, entry in last.items()))
        self.check(kinds, points, tuple(last.values()), STOCK, 4, True)

    def test_an_entry_left_out(self):
        draw = chance.drawer(36)
        for kinds, points, stock, most in drawn_shelves(37, 80):
            shelf = shelf_of(kinds, points, stock=stock, most=most)
            for at in draw.sample(range(len(shelf)), min(4, len(shelf))):
                self.check(kinds, points, shelf[:at] + shelf[at + 1:], stock, most, False)

    def test_each_entry_left_out(self):
        kinds, points = ("num", "truth"), ((3, True), (-2, False), (0, True))
        for stock in (STOCK, LOGIC, CHOICES, LEAVES):
            shelf = shelf_of(kinds, points, stock=stock, most=4)
            for at in range(len(shelf)):
                self.check(kinds, points, shelf[:at] + shelf[at + 1:], stock, 4, False)

    def test_an_entry_twice(self):
        kinds, points = ("num", "num"), ((3, 1), (-2, 2))
        shelf = shelf_of(kinds, points, most=3)
        for entry in shelf:
            self.check(kinds, points, (*shelf, entry), STOCK, 3, False)
        # Another program, right by itself, for a row that stands there already.
        self.assertIn((3, "num", (1, -2), read("least in 0 in 1")), shelf)
        self.check(kinds, points, (*shelf, (3, "num", (1, -2), read("least in 1 in 0"))), STOCK, 3, False)

    def test_wrong_entries(self):
        kinds, points = ("num", "truth"), ((3, True), (-2, False))
        shelf = shelf_of(kinds, points, stock=LOGIC, most=4)
        self.check(kinds, points, shelf, LOGIC, 4, True)
        for at, (load, kind, row, program) in enumerate(shelf):
            other_kind = "truth" if kind == "num" else "num"
            turned = tuple(not thing for thing in row) if kind == "truth" else (row[0] + 1, *row[1:])
            for wrong in [
                    (load + 1, kind, row, program), (load - 1, kind, row, program), (0, kind, row, program),
                    (load, other_kind, row, program), (load, "", row, program), (load, kind, turned, program),
                    (load, kind, row[:1], program), (load, kind, (*row, row[0]), program), (load, kind, (), program),
                    (load, kind, row[::-1], program) if row != row[::-1] else (9, kind, row, program)]:
                self.check(kinds, points, shelf[:at] + (wrong,) + shelf[at + 1:], LOGIC, 4, False)

    def test_wrong_entries_beside_the_due_ones(self):
        kinds, points = ("num", "truth"), ((3, True),)
        shelf = shelf_of(kinds, points, most=1)
        for wrong in [(1, "num", (77,), ("in", 0)), (1, "truth", (False,), ("in", 1)), (0, "num", (77,), ("in", 0)),
                      (1, "num", (4,), ("plus", 1, ("in", 0))), (2, "num", (4,), ("plus", 1, ("in", 0))),
                      (1, "num", (3, 3), ("in", 0)), (1, "num", (), ("in", 0)), (1, "num", (True,), ("in", 1)),
                      (1, "truth", (3,), ("in", 0)), (1, "", (3,), ("in", 0))]:
            self.check(kinds, points, (*shelf, wrong), STOCK, 1, False)
            self.check(kinds, points, (wrong, *shelf), STOCK, 1, False)
        # Without points nothing but the kind is amiss.
        for wrong in ((1, "truth", (), ("in", 0)), (1, "kind", (), ("in", 0))):
            self.check(("num",), (), ((1, "num", (), ("in", 0)), wrong), STOCK, 1, False)
            self.check(("num",), (), (wrong,), STOCK, 1, False)

    def test_numbers_in_the_place_of_truths(self):
        kinds, points = ("num", "truth"), ((1, True), (0, False))
        shelf = shelf_of(kinds, points, most=1)
        self.check(kinds, points, shelf, STOCK, 1, True)
        for old, new in [((1, "num", (1, 0), ("in", 0)), (1, "num", (True, False), ("in", 0))),
                         ((1, "truth", (True, False), ("in", 1)), (1, "truth", (1, 0), ("in", 1)))]:
            self.assertIn(old, shelf)
            self.check(kinds, points, tuple(new if entry == old else entry for entry in shelf), STOCK, 1, False)

    def test_a_program_that_is_not_of_the_stock(self):
        kinds, points = ("num",), ((3,),)
        shelf = shelf_of(kinds, points, most=2)
        self.assertIn((2, "num", (4,), ("plus", 1, ("in", 0))), shelf)
        for program in (("plus", 4, ("num", 0)), ("num", 4)):
            for load in (1, 2):
                wrong = tuple((load, "num", (4,), program) if row == (4,) else (own, kind, row, entry)
                              for own, kind, row, entry in shelf)
                self.check(kinds, points, wrong, STOCK, 2, False)
        # One that is beside the due ones.
        self.check(kinds, points, (*shelf, (1, "num", (7,), ("num", 7))), STOCK, 2, False)
        self.check(kinds, points, (*shelf, (1, "truth", (True,), ("yes",))), STOCK, 2, False)

    def test_a_program_heavier_than_most(self):
        kinds, points = ("num",), ((3,),)
        shelf = shelf_of(kinds, points, most=3)
        self.check(kinds, points, shelf, STOCK, 3, True)
        self.check(kinds, points, shelf, STOCK, 2, False)
        self.check(kinds, points, shelf, STOCK, 4, False)
        self.check(kinds, points, tuple(entry for entry in shelf if entry[0] < 3), STOCK, 2, True)
        self.check(kinds, points, tuple(entry for entry in shelf if entry[0] < 3), STOCK, 3, False)

    def test_a_row_at_a_greater_weight(self):
        kinds, points = ("num", "num"), ((3, 1), (-2, 2))
        shelf = shelf_of(kinds, points, most=4)
        heavier = [
            # In the place of an input, a number, what a step makes, what a word makes.
            ("in 0", "least in 0 in 0"), ("num 0", "plus -1 num 1"), ("plus 1 in 0", "plus 1 least in 0 in 0"),
            ("plus -1 num 0", "least num 0 plus -1 num 0"), ("least in 0 in 1", "plus -1 plus 1 least in 0 in 1")]
        for light, heavy in heavier:
            old = (weight(read(light)), "num", row_of(read(light), points), read(light))
            new = (weight(read(heavy)), "num", row_of(read(heavy), points), read(heavy))
            self.assertEqual(old[2], new[2])
            self.assertIn(old, shelf)
            turned = tuple(new if entry == old else entry for entry in shelf)
            self.check(kinds, points, turned, STOCK, 5, False)
            self.check(kinds, points, turned, STOCK, 4, False)

    def test_greater_weights_beside_heavier_stocks(self):
        # By each word, and for leaves of the stock, yes and no too.
        kinds = ("truth", "num")
        points = ((True, 5), (False, 0))
        for stock in (LOGIC, CHOICES, WORDS, LEAVES):
            shelf = shelf_of(kinds, points, stock=stock, most=5)
            every = plain.programs_of(kinds, stock, 5)
            for at, (load, kind, row, program) in enumerate(shelf):
                heavier = [(more, own, row, other) for more, own, other in every
                           if more > load and own == kind and plain.row(other, points) == row]
                for entry in heavier[:1] + heavier[-1:]:
                    self.check(kinds, points, shelf[:at] + (entry,) + shelf[at + 1:], stock, 5, False)

    def test_the_empty_shelf(self):
        for points in ((), ((),)):
            self.check((), points, (), NONE, 6, True)
            self.check((), points, (), WORDS, 6, True)
            self.check((), points, (), HEAVY, 6, True)
            self.check((), points, (), (((3, 2),), (), ()), 1, True)
            self.check((), points, (), (((3, 2),), (), ()), 2, False)
            self.check((), points, (), ((), (), (("yes", 3),)), 2, True)
            self.check((), points, (), ((), (), (("yes", 3),)), 3, False)
            self.check((), points, (), ((), (), (("no", 1),)), 1, False)
            self.check((), points, (), STOCK, 1, False)
        self.check(("num",), ((4,),), (), NONE, 1, False)
        self.check(("truth",), (), (), NONE, 1, False)

    def test_closed_to_nought(self):
        self.check(("num",), ((4,),), (), STOCK, 0, True)
        self.check(("num",), ((4,),), shelf_of(("num",), ((4,),), most=1), STOCK, 0, False)
        self.assertEqual(shelf_of(("num",), ((4,),), most=0), ())

    def test_no_points(self):
        shelf = ((1, "num", (), ("in", 1)), (3, "truth", (), ("atmost", ("in", 1), ("num", 0))))
        self.check(("num", "num"), (), shelf, STOCK, 5, True)
        self.check(("num", "num"), (), shelf[:1], STOCK, 2, True)
        self.check(("num", "num"), (), shelf[:1], STOCK, 3, False)
        self.check(("num", "num"), (), shelf[1:], STOCK, 3, False)
        self.check(("num", "num"), (), ((2, "num", (), ("plus", 1, ("in", 0))), shelf[1]), STOCK, 5, False)

    def test_of_other_points_or_another_stock(self):
        kinds, points = ("num", "num"), ((3, 1), (-2, 2))
        shelf = shelf_of(kinds, points, most=3)
        self.check(kinds, points[::-1], shelf, STOCK, 3, False)
        self.check(kinds, points[:1], shelf, STOCK, 3, False)
        self.check(kinds, points, shelf, TURNED, 3, True)
        self.check(kinds, points, shelf, STEPS, 3, False)

    def test_what_is_left_out(self):
        kinds, points = ("num",), ((3,), (0,))
        shelf = shelf_of(kinds, points)
        self.assertIs(shelf_holds(kinds, points, shelf), True)
        self.assertIs(shelf_holds(shelf=shelf, points=points, kinds=kinds), True)
        self.assertIs(shelf_holds(kinds, points, shelf, most=4), False)
        self.assertIs(shelf_holds(kinds, points, shelf_of(kinds, points, most=4), most=4), True)
        with self.assertRaises(TypeError):
            shelf_holds(kinds, points, shelf, STOCK)


if __name__ == "__main__":
    unittest.main()
