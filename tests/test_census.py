"""Points 27 and 28: points that part, and of points 2 and 3 what they say of leastmaker.census."""

import inspect
import itertools
import unittest

from leastmaker.always import same
from leastmaker.census import FEW, census, unparted
from leastmaker.making import least_of
from leastmaker.programs import kind_of
from leastmaker.shelves import shelf_of
from leastmaker.stocks import STOCK, weight
from tests import chance, plain
from tests.test_shelves import CHOICES, HEAVY, LEAVES, LOGIC, NONE, STEPS, STOCKS, TURNED, some_points

ALL_KINDS = [kinds for many in range(4) for kinds in itertools.product(("num", "truth"), repeat=many)]


class Checks(unittest.TestCase):
    def check_points(self, kinds, points):
        self.assertIs(type(points), tuple)
        self.assertEqual(len(set(points)), len(points))
        for inputs in points:
            self.check_inputs(kinds, inputs)

    def check_inputs(self, kinds, inputs):
        self.assertIs(type(inputs), tuple)
        self.assertEqual([type(thing) for thing in inputs], [{"num": int, "truth": bool}[kind] for kind in kinds])

    def parted(self, kinds, points, stock, most):
        """Whether all programs of one kind and row are the same everywhere, by going through them.

        Each is held against the first with its row; so any two are.
        """
        first = {}
        for load, kind, program in plain.programs_of(kinds, stock, most):
            rival = first.setdefault((kind, plain.row(program, points)), program)
            if same(kinds, rival, program)[0] != "same":
                return False
        return True


class Census(Checks):
    def check(self, kinds, stock, most):
        told = census(kinds, stock=stock, most=most)
        self.assertIs(type(told), tuple)
        points, shelf = told
        self.check_points(kinds, points)
        self.assertEqual(shelf, shelf_of(kinds, points, stock=stock, most=most))
        self.assertIs(self.parted(kinds, points, stock, most), True, (kinds, stock, most))
        self.assertIsNone(unparted(kinds, points, stock=stock, most=most))
        return points, shelf

    def test_the_weight_when_left_out(self):
        self.assertEqual(FEW, 3)
        self.assertEqual(census(("num", "num")), census(("num", "num"), stock=STOCK, most=3))
        self.assertEqual(census(kinds=("num",), stock=STEPS), census(("num",), stock=STEPS, most=3))
        for told in (census, unparted):
            found = inspect.signature(told).parameters
            self.assertEqual((found["stock"].default, found["most"].default), (STOCK, 3))
        with self.assertRaises(TypeError):
            census(("num",), STOCK)

    def test_each_kind_and_stock(self):
        for kinds, stock in itertools.product(ALL_KINDS, STOCKS):
            self.check(kinds, stock, 1 + len(kinds + stock[0]) % 3)

    def test_each_weight(self):
        for kinds, stock, most in itertools.product([(), ("num",), ("truth",)], STOCKS, range(1, 5)):
            self.check(kinds, stock, most)
        for kinds, stock in [(("num", "num"), STOCK), (("num", "truth"), CHOICES), (("truth", "num"), LOGIC),
                             (("num",) * 3, STEPS)]:
            self.check(kinds, stock, 4)

    def test_all_pairs_of_a_small_stock(self):
        for kinds, stock in [(("num",), STOCK), (("truth",), LOGIC), (("num", "truth"), CHOICES)]:
            points, shelf = census(kinds, stock=stock, most=3)
            for (load, kind, one), (more, own, other) in itertools.combinations(
                    plain.programs_of(kinds, stock, 3), 2):
                if kind == own:
                    alike = same(kinds, one, other)[0] == "same"
                    self.assertIs(plain.row(one, points) == plain.row(other, points), alike)

    def test_each_function_once(self):
        for kinds, stock in [(("num",), STOCK), (("truth", "num"), LOGIC)]:
            points, shelf = self.check(kinds, stock, 3)
            told = [program for load, kind, row, program in shelf]
            for program in told:
                self.assertEqual(least_of(kinds, program, stock=stock, most=3), program)
            every = {least_of(kinds, program, stock=stock, most=3)
                     for load, kind, program in plain.programs_of(kinds, stock, 3)}
            self.assertEqual(set(told), every)

    def test_numbers_far_off(self):
        stock = (((1000, 1), (-1000, 1)), ((999, 1), (-1000, 1)), (("least", 1), ("atmost", 1), ("if", 1)))
        self.check(("num",), stock, 4)
        self.check(("num", "num"), stock, 3)

    def test_few_functions(self):
        self.assertEqual(census((), stock=NONE, most=4), ((), ()))
        self.assertEqual(census((), stock=HEAVY, most=4), ((), ()))
        self.assertEqual(census(("num",), stock=NONE, most=4), ((), ((1, "num", (), ("in", 0)),)))
        points, shelf = census((), stock=LEAVES, most=2)
        self.assertEqual(points, ((),))
        self.assertEqual(len(shelf), 4)

    def test_the_greatest(self):
        stock = (((0, 1), (1, 1), (7, 1)), ((1, 1), (-3, 1)),
                 (("least", 1), ("most", 1), ("atmost", 1), ("if", 1), ("either", 1), ("not", 1)))
        points, shelf = census(("num", "num", "num"), stock=stock, most=4)
        self.check_points(("num", "num", "num"), points)
        self.assertIsNone(unparted(("num", "num", "num"), points, stock=stock, most=4))

    def test_asked_again(self):
        first = census(("num", "num"))
        census(("num", "num"), stock=TURNED)
        self.assertEqual(census(("num", "num")), first)


class Unparted(Checks):
    def check(self, kinds, points, stock, most):
        """What is told is right; whether the points part."""
        told = unparted(kinds, points, stock=stock, most=most)
        self.assertEqual(unparted(kinds, points, stock=stock, most=most), told)
        self.assertIs(told is None, self.parted(kinds, points, stock, most), (kinds, points, stock, most))
        if told is None:
            return True
        self.assertIs(type(told), tuple)
        one, other, inputs = told
        self.check_inputs(kinds, inputs)
        for program in (one, other):
            self.assertLessEqual(weight(program, stock=stock), most)
        self.assertEqual(kind_of(kinds, one), kind_of(kinds, other))
        self.assertEqual(plain.row(one, points), plain.row(other, points))
        self.assertNotEqual(plain.value(one, inputs), plain.value(other, inputs))
        return False

    def test_no_points(self):
        self.assertIs(self.check(("num",), (), NONE, 4), True)
        self.assertIs(self.check((), (), NONE, 4), True)
        self.assertIs(self.check((), (), HEAVY, 4), True)
        self.assertIs(self.check(("num", "truth"), (), NONE, 1), True)
        self.assertIs(self.check(("num",), (), STOCK, 1), False)
        self.assertIs(self.check(("truth", "truth"), (), NONE, 1), False)
        self.assertIs(self.check((), (), LEAVES, 1), True)
        self.assertIs(self.check((), (), LEAVES, 2), False)

    def test_listed_ones(self):
        # At 5 the least and the greater of the input and 1 are told by 1 and the input.
        self.assertIs(self.check(("num",), ((5,),), STOCK, 3), False)
        self.assertIs(self.check(("num",), ((5,),), STOCK, 1), True)
        self.assertIs(self.check(("num",), ((0,),), STOCK, 1), False)
        self.assertIs(self.check(("truth",), ((True,),), LOGIC, 4), False)
        self.assertIs(self.check(("truth",), ((True,), (False,)), LOGIC, 4), True)
        self.assertIs(self.check(("truth", "truth"), tuple(chance.all_inputs(("truth", "truth"), ())), LOGIC, 4), True)

    def test_points_of_a_census_and_more(self):
        draw = chance.drawer(61)
        for kinds, stock in itertools.product(ALL_KINDS[:7], STOCKS):
            points = census(kinds, stock=stock, most=3)[0]
            more = tuple(dict.fromkeys((*some_points(draw, kinds, 3), *points, *some_points(draw, kinds, 3))))
            self.assertIsNone(unparted(kinds, points, stock=stock, most=3))
            self.assertIsNone(unparted(kinds, more, stock=stock, most=3))
            self.assertIsNone(unparted(kinds, points[::-1], stock=stock, most=3))

    def test_drawn_points(self):
        draw = chance.drawer(62)
        parted = []
        for turn in range(150):
            kinds, stock = draw.choice(ALL_KINDS[:7]), STOCKS[turn % len(STOCKS)]
            points = some_points(draw, kinds, draw.choice((0, 1, 2, 4, 8)), draw.choice((2, 1000)))
            parted.append(self.check(kinds, points, stock, draw.randint(1, 3)))
        self.assertGreater(parted.count(True), 20)
        self.assertGreater(parted.count(False), 20)

    def test_one_point_less(self):
        found = []
        for kinds, stock in [(("num",), STOCK), (("num", "num"), STEPS), (("num",), CHOICES),
                             (("num", "truth"), LOGIC)]:
            points = census(kinds, stock=stock, most=3)[0]
            for at in range(len(points)):
                found.append(self.check(kinds, points[:at] + points[at + 1:], stock, 3))
        self.assertIn(False, found)

    def test_by_name(self):
        one, other, inputs = unparted(points=((5,),), kinds=("num",))
        self.assertNotEqual(plain.value(one, inputs), plain.value(other, inputs))
        self.assertIsNone(unparted(("num",), ((5,),), most=1))
        with self.assertRaises(TypeError):
            unparted(("num",), (), STOCK)


if __name__ == "__main__":
    unittest.main()
