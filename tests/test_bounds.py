"""Points 11 and 12, and of point 2 what it says of leastmaker.bounds."""

import itertools
import unittest

from leastmaker.bounds import Bounds, ring_holds
from tests import chance, plain

# Rows over three numbers: some that numbers keep, some that none do.
KEPT = [
    (0, []),
    (0, [(-1, -1, 0)]),
    (0, [(-1, -1, 5), (-1, -1, 0)]),
    (1, []),
    (1, [(0, -1, -5), (-1, 0, 5)]),
    (1, [(0, 0, 0), (0, 0, 3), (-1, 0, -1000)]),
    (2, [(0, 1, -1), (1, 0, 1)]),
    (2, [(0, 1, -1), (1, 0, 2)]),
    (3, [(0, 1, 2), (1, 2, -3), (2, 0, 1)]),
    (3, [(0, 1, 2), (1, 2, -3), (2, -1, 4), (-1, 0, 7)]),
    (3, [(0, 1, 2), (0, 1, 2), (0, 1, 5), (-1, -1, 0)]),
    (5, [(k, k + 1, -1) for k in range(4)] + [(4, 0, 4), (-1, 2, -9)]),
]
EMPTY = [
    (0, [(-1, -1, -1)]),
    (1, [(0, 0, -1)]),
    (1, [(0, -1, -6), (-1, 0, 5)]),
    (2, [(0, 1, -1), (1, 0, 0)]),
    (2, [(1, 0, 7), (0, 1, -1), (-1, 1, 3), (1, 0, 0)]),
    (3, [(0, 1, 2), (1, 2, -3), (2, 0, 0)]),
    (3, [(0, 1, 2), (1, 2, -3), (2, -1, 4), (-1, 0, -4)]),
    (3, [(2, 1, 0), (1, -1, 0), (0, 0, 0), (-1, 2, -1), (2, 2, -3)]),
    (5, [(k, k + 1, -1) for k in range(4)] + [(4, 0, 3), (-1, 2, -9)]),
]


def drawn_rows(draw, many, count, far):
    return [(draw.randint(-1, many - 1), draw.randint(-1, many - 1), draw.randint(-far, far + far // 2))
            for turn in range(count)]


def drawn_bounds(seed, turns):
    draw = chance.drawer(seed)
    for turn in range(turns):
        many = draw.randint(0, 5)
        yield many, drawn_rows(draw, many, draw.randint(0, 12), draw.choice((1, 3, 1000)))


class Rows(unittest.TestCase):
    def test_list_tuple_and_left_out(self):
        rows = [(0, 1, 3), (-1, 0, -2), (0, 1, 3)]
        for given in (rows, tuple(rows)):
            self.assertEqual(Bounds(2, given).rows(), ((0, 1, 3), (-1, 0, -2), (0, 1, 3)))
            self.assertIs(type(Bounds(2, given).rows()), tuple)
            self.assertEqual(Bounds(rows=given, many=2).rows(), tuple(rows))
        self.assertEqual(Bounds(2).rows(), ())
        self.assertEqual(Bounds(many=2).rows(), ())

    def test_the_list_changed_behind(self):
        rows = [(0, 1, 3), (1, 0, -3)]
        bounds = Bounds(2, rows)
        rows.append((0, 0, -1))
        rows[0] = (0, 1, -100)
        self.assertEqual(bounds.rows(), ((0, 1, 3), (1, 0, -3)))
        self.assertEqual((len(bounds), bounds.is_empty(), bounds.least(0, 1)), (2, False, 3))
        self.assertIs(bounds.holds((8, 5)), True)
        self.assertEqual(rows, [(0, 1, -100), (1, 0, -3), (0, 0, -1)])

    def test_also(self):
        for many, rows in KEPT + EMPTY:
            bounds = Bounds(many, rows)
            new = bounds.also(-1, -1, -4)
            self.assertIsInstance(new, Bounds)
            self.assertEqual(new.rows(), (*rows, (-1, -1, -4)))
            self.assertIs(new.is_empty(), True)
            self.assertEqual(bounds.rows(), tuple(rows))
            self.assertEqual(bounds.is_empty(), (many, rows) in EMPTY)
        new = Bounds(2, [(0, 1, 3)]).also(c=5, i=1, j=-1)
        self.assertEqual(new.rows(), ((0, 1, 3), (1, -1, 5)))
        self.assertEqual((new.least(0, -1), new.also(0, -1, 7).least(0, -1)), (8, 7))
        self.assertEqual(new.least(0, -1), 8)

    def test_len_and_repr(self):
        for many, rows in KEPT + EMPTY:
            self.assertEqual(len(Bounds(many, rows)), len(rows))
            self.assertEqual(repr(Bounds(many, rows)), f"Bounds({many}, {len(rows)})")
        self.assertEqual(repr(Bounds(3, [(0, 1, 5), (0, 1, 5)])), "Bounds(3, 2)")
        self.assertEqual(repr(Bounds(0)), "Bounds(0, 0)")


class Holds(unittest.TestCase):
    def test_each_row(self):
        for i, j in itertools.product(range(-1, 2), repeat=2):
            for c in (-1000, -2, -1, 0, 1, 2, 1000):
                bounds = Bounds(2, [(i, j, c)])
                for numbers in itertools.product((-1000, -2, -1, 0, 1, 2, 999, 1000), repeat=2):
                    self.assertIs(bounds.holds(numbers), plain.keeps([(i, j, c)], numbers))

    def test_all_rows(self):
        bounds = Bounds(2, [(0, 1, 3), (-1, 0, -2), (1, -1, 9)])
        self.assertIs(bounds.holds((2, 9)), True)
        self.assertIs(bounds.holds(numbers=(2, -1)), True)
        self.assertIs(bounds.holds((2, -2)), False)
        self.assertIs(bounds.holds((1, 9)), False)
        self.assertIs(bounds.holds((2, 10)), False)

    def test_over_no_numbers(self):
        self.assertIs(Bounds(0).holds(()), True)
        self.assertIs(Bounds(0, [(-1, -1, 0)]).holds(()), True)
        self.assertIs(Bounds(0, [(-1, -1, -1)]).holds(()), False)

    def test_great_numbers(self):
        bounds = Bounds(2, [(0, 1, 1000)])
        self.assertIs(bounds.holds((10 ** 6, 10 ** 6 - 1000)), True)
        self.assertIs(bounds.holds((10 ** 6, 10 ** 6 - 1001)), False)
        self.assertIs(bounds.holds((10 ** 30, 10 ** 30)), True)


class Emptiness(unittest.TestCase):
    def check(self, many, rows):
        """Just one of ring and point is None, and the other one is right."""
        for order in itertools.permutations(("is_empty", "ring", "point")):
            bounds = Bounds(many, rows)
            told = {name: getattr(bounds, name)() for name in order}
            again = {name: getattr(bounds, name)() for name in order}
            self.assertEqual(told, again)
            self.assertEqual([told["ring"], told["point"]].count(None), 1)
            self.assertIs(told["is_empty"], told["point"] is None)
            if told["is_empty"]:
                self.assertIs(type(told["ring"]), tuple)
                self.assertTrue(plain.is_ring(rows, told["ring"]), (rows, told["ring"]))
                self.assertIs(ring_holds(bounds, told["ring"]), True)
            else:
                self.assertIs(type(told["point"]), tuple)
                self.assertEqual(len(told["point"]), many)
                self.assertTrue(plain.keeps(rows, told["point"]), (rows, told["point"]))
                self.assertIs(bounds.holds(told["point"]), True)
        return told["is_empty"]

    def test_kept_and_empty_ones(self):
        for many, rows in KEPT:
            self.assertIs(self.check(many, rows), False, rows)
        for many, rows in EMPTY:
            self.assertIs(self.check(many, rows), True, rows)

    def test_over_no_numbers(self):
        self.assertEqual(Bounds(0).point(), ())
        self.assertIsNone(Bounds(0).ring())
        self.assertEqual(Bounds(0, [(-1, -1, 0), (-1, -1, -2)]).ring(), (1,))
        self.assertIsNone(Bounds(0, [(-1, -1, -2)]).point())

    def test_rows_that_go_round(self):
        for many in range(1, 6):
            places = list(range(many))
            for way in (places, places[::-1], [*places, -1], [-1, *places[::-1]]):
                ends = list(zip(way, [*way[1:], way[0]]))
                for together in (-1, 0, 1):
                    for first in (-1000, 0, 999):
                        loads = [first, *[0] * (len(ends) - 2), together - first] if len(ends) > 1 else [together]
                        rows = [(i, j, c) for (i, j), c in zip(ends, loads)]
                        self.assertIs(self.check(many, rows), together < 0, rows)
                        self.assertIs(self.check(many, rows[::-1]), together < 0, rows)

    def test_drawn_ones(self):
        told = []
        for many, rows in drawn_bounds(4, 700):
            told.append(self.check(many, rows))
            self.assertEqual(told[-1], plain.distances(many, rows) is None, rows)
        self.assertGreater(told.count(True), 100)
        self.assertGreater(told.count(False), 100)

    def test_all_small_ones(self):
        every = [(i, j, c) for i in range(-1, 2) for j in range(-1, 2) for c in (-1, 0, 1)]
        for rows in itertools.combinations(every, 3):
            # Among numbers that keep three such rows there are some this near to 0.
            found = any(plain.keeps(rows, numbers) for numbers in itertools.product(range(-3, 4), repeat=2))
            self.assertEqual(Bounds(2, rows).is_empty(), not found, rows)

    def test_many_rows_behind_a_ring(self):
        # What a ring lowers goes on to others that aren't on it.
        rows = [(4, 3, 0), (3, 2, -1), (2, 1, -5), (0, 1, -1), (1, 0, 0), (-1, 4, -2)]
        self.assertIs(self.check(5, rows), True)
        self.assertEqual(sorted(Bounds(5, rows).ring()), [3, 4])


class Least(unittest.TestCase):
    def check(self, many, rows):
        far = plain.distances(many, rows)
        bounds = Bounds(many, rows)
        for i, j in itertools.product(range(-1, many), repeat=2):
            c = bounds.least(i, j)
            self.assertEqual(float("inf") if c is None else c, far[i, j], (rows, i, j))
            if i == j:
                self.assertEqual(c, 0)
            if c is None:
                # However far, some numbers keep the rows.
                self.assertIs(bounds.also(j, i, -10 ** 7).is_empty(), False)
            else:
                self.assertIs(type(c), int)
                self.assertIs(bounds.also(j, i, -c).is_empty(), False)
                self.assertIs(bounds.also(j, i, -c - 1).is_empty(), True)

    def test_kept_ones(self):
        for many, rows in KEPT:
            self.check(many, rows)

    def test_drawn_ones(self):
        checked = 0
        for many, rows in drawn_bounds(5, 400):
            if not Bounds(many, rows).is_empty():
                self.check(many, rows)
                checked += 1
        self.assertGreater(checked, 100)

    def test_by_looking_at_numbers(self):
        for rows in ([(0, 1, 2), (1, -1, -1), (-1, 0, 4)], [(0, 1, -2), (1, 0, 3)],
                     [(0, -1, 1), (-1, 1, 1), (0, 0, 5)]):
            bounds = Bounds(2, rows)
            near = [numbers for numbers in itertools.product(range(-9, 10), repeat=2) if plain.keeps(rows, numbers)]
            for i, j in itertools.product(range(-1, 2), repeat=2):
                most = max(plain.number(numbers, i) - plain.number(numbers, j) for numbers in near)
                if bounds.least(i, j) is not None:
                    self.assertEqual(bounds.least(i, j), most)
                else:
                    self.assertGreaterEqual(most, 7)

    def test_by_name_and_in_any_order(self):
        bounds = Bounds(2, [(0, 1, 3), (1, -1, 4)])
        self.assertEqual(bounds.least(j=-1, i=0), 7)
        bounds.point(), bounds.is_empty(), bounds.ring()
        self.assertEqual([bounds.least(0, 1), bounds.least(1, 0), bounds.least(-1, 0), bounds.least(-1, -1)],
                         [3, None, None, 0])


class Equality(unittest.TestCase):
    def check(self, one, other, equal):
        for left, right in ((one, other), (other, one)):
            self.assertIs(left == right, equal)
            self.assertIs(left != right, not equal)

    def test_the_same_tuples(self):
        rows = [(0, 1, 2), (1, 2, -3), (2, -1, 4)]
        bounds = Bounds(3, rows)
        self.check(bounds, bounds, True)
        self.check(bounds, Bounds(3, tuple(rows)), True)
        for order in itertools.permutations(rows):
            self.check(bounds, Bounds(3, order), True)
        self.check(bounds, bounds.also(0, 1, 2), True)
        self.check(bounds, bounds.also(0, 2, -1), True)
        self.check(bounds, bounds.also(0, -1, 3), True)
        self.check(bounds, bounds.also(1, 1, 0), True)
        self.check(bounds, bounds.also(0, 1, 7), True)
        self.check(Bounds(2), Bounds(2, [(0, 0, 5), (-1, -1, 0)]), True)

    def test_one_row_otherwise(self):
        rows = [(0, 1, 2), (1, 2, -3), (2, -1, 4)]
        bounds = Bounds(3, rows)
        self.check(bounds, bounds.also(0, 2, -2), False)
        self.check(bounds, bounds.also(0, -1, 2), False)
        self.check(bounds, bounds.also(-1, 0, 1000), False)
        self.check(bounds, Bounds(3, rows[:2]), False)
        self.check(bounds, Bounds(3, [(0, 1, 3), *rows[1:]]), False)
        self.check(bounds, Bounds(3, [(1, 0, 2), *rows[1:]]), False)
        self.check(bounds, bounds.also(0, 0, -1), False)

    def test_empty_ones(self):
        for (many, rows), (count, others) in itertools.product(EMPTY, repeat=2):
            self.check(Bounds(many, rows), Bounds(count, others), many == count)
        for many, rows in KEPT:
            self.check(Bounds(many, rows), Bounds(many, [(-1, -1, -1)]), False)

    def test_another_count_of_numbers(self):
        self.check(Bounds(2), Bounds(3), False)
        self.check(Bounds(0), Bounds(1), False)
        self.check(Bounds(2, [(0, 1, 2)]), Bounds(3, [(0, 1, 2)]), False)

    def test_anything_else(self):
        bounds = Bounds(2, [(0, 1, 2)])
        for thing in (((0, 1, 2),), (), [(0, 1, 2)], 2, 0, True, False, None, "Bounds(2, 1)", bounds.rows(), {}):
            self.check(bounds, thing, False)
            self.check(Bounds(0), thing, False)

    def test_drawn_ones(self):
        equal = 0
        for many, rows in drawn_bounds(6, 300):
            far = plain.distances(many, rows)
            for i, j in itertools.product(range(-1, many), repeat=2):
                also = (i, j, 1)
                told = plain.distances(many, [*rows, also]) == far
                self.check(Bounds(many, rows), Bounds(many, [also, *rows[::-1]]), told)
                equal += told
        self.assertGreater(equal, 200)


class RingHolds(unittest.TestCase):
    def test_the_told_ring_and_others(self):
        for many, rows in EMPTY:
            bounds = Bounds(many, rows)
            ring = bounds.ring()
            for at in range(len(ring)):
                turned = ring[at:] + ring[:at]
                self.assertIs(ring_holds(bounds, turned), True)
                for others in (turned[:-1], turned + turned[:1], turned + turned, turned[:-1] + (len(rows),),
                               turned + (len(rows),), turned[:-1] + (-1,), turned + (-1,), turned[:-1] + (10 ** 30,),
                               tuple(number - len(rows) for number in turned)):
                    self.assertIs(ring_holds(bounds, others), plain.is_ring(rows, others), (rows, others))
            self.assertIs(ring_holds(bounds, ring[::-1]), plain.is_ring(rows, ring[::-1]))
            self.assertIs(ring_holds(ring=ring, bounds=bounds), True)
            self.assertIs(ring_holds(bounds, ()), False)

    def test_all_tuples_of_few(self):
        for many, rows in KEPT + EMPTY:
            bounds = Bounds(many, rows)
            for length in range(4):
                for ring in itertools.product(range(-1, min(len(rows), 6) + 1), repeat=length):
                    self.assertIs(ring_holds(bounds, ring), plain.is_ring(rows, ring), (rows, ring))

    def test_listed_ones(self):
        bounds = Bounds(3, [(0, 1, 2), (1, 2, -3), (2, 0, 0), (2, 0, 1), (1, 0, -2), (1, 0, -3), (0, 0, -1)])
        for ring in ((0, 1, 2), (1, 2, 0), (2, 0, 1), (0, 5), (5, 0), (6,), (6, 0, 5), (6, 0, 1, 2)):
            self.assertIs(ring_holds(bounds, ring), True, ring)
        for ring in (
                (), (0,), (0, 1), (0, 1, 3), (0, 4), (2, 1, 0), (0, 1, 2, 0), (6, 6), (0, 1, 2, 6, 6), (7,), (-1,),
                (0, 1, 2, 7), (-7, 1, 2), (0, 1, -5), (1, 0, 2), (0, 5, 0, 5)):
            self.assertIs(ring_holds(bounds, ring), False, ring)
        # It may go by one place twice, but by no row.
        self.assertIs(ring_holds(bounds, (0, 5, 6)), True)
        self.assertIs(ring_holds(bounds, (0, 4, 6)), True)

    def test_of_bounds_that_are_not_empty(self):
        for many, rows in KEPT:
            bounds = Bounds(many, rows)
            for length in range(1, 4):
                for ring in itertools.permutations(range(len(rows)), length):
                    self.assertIs(ring_holds(bounds, ring), False)

    def test_the_other_way_about(self):
        bounds = Bounds(3, [(0, 1, -1), (1, 2, -1), (2, 0, -1)])
        self.assertIs(ring_holds(bounds, (0, 1, 2)), True)
        self.assertIs(ring_holds(bounds, (2, 1, 0)), False)
        two = Bounds(2, [(0, 1, -1), (1, 0, 0)])
        self.assertIs(ring_holds(two, (1, 0)), True)


if __name__ == "__main__":
    unittest.main()
