"""Points 30 and 31: makers, and of points 2 and 3 what they say of leastmaker.maker."""

import inspect
import unittest

from leastmaker.answers import answer_holds
from leastmaker.errors import Clash, NoInputs, NoProgram, NotKept
from leastmaker.maker import Maker
from leastmaker.making import made
from leastmaker.programs import kind_of
from leastmaker.stocks import STOCK
from leastmaker.texts import read
from leastmaker.wishes import meets, wish_of
from tests import chance, plain
from tests.test_shelves import CHOICES, STEPS, TURNED

ONE = (("num",), "num")
TWO = (("num", "num"), "num")
MIXED = (("num", "truth"), "truth")
LOWER = read("atmost in 0 in 2")
UPPER = read("atmost in 1 in 2")
EITHER = read("either atmost in 2 in 0 atmost in 2 in 1")


def stands(maker):
    """All that a maker tells but its log, without a deed."""
    return maker.kept(), list(maker.kept()), len(maker), maker.is_busy()


class Checks(unittest.TestCase):
    def check_refused(self, maker, word, thing, error, *fields):
        """The deed with this name is refused with these fields, and changes nothing but the log."""
        ahead, log, whole = stands(maker), maker.log(), maker.whole()
        deed = getattr(maker, word)
        with self.assertRaises(error) as caught:
            deed(thing)
        self.assertEqual(tuple(vars(caught.exception).values()), fields)
        self.assertEqual(maker.log(), [*log, ("in", "whole"), ("out", "whole"), ("in", word), ("out", word)])
        self.assertEqual(stands(maker), ahead)
        self.assertEqual(maker.whole(), whole)

    def check_whole(self, maker, programs):
        """The whole is met by just those of these programs that meet all that is kept."""
        whole = maker.whole()
        self.assertEqual(kind_of((*maker.head[0], maker.head[1]), whole), "truth")
        self.assertEqual(maker.whole(), whole)
        met = []
        for program in programs:
            due = all(meets(maker.head, thing[1], program)[0] == "sure" if thing[0] == "wish"
                      else plain.value(program, thing[1]) == thing[2] for thing in maker.kept().values())
            self.assertIs(meets(maker.head, whole, program)[0] == "sure", due, (maker.kept(), program))
            met.append(due)
        return met

    def check_made(self, maker, stock=STOCK, most=5):
        """What is made is the first program for all that is kept; the program, or None."""
        told = maker.made()
        self.assertIs(answer_holds(maker.head, maker.whole(), told, stock=stock, most=most), True)
        fresh = made(maker.head, maker.whole(), stock=stock, most=most)
        self.assertEqual(told[0], fresh[0])
        self.assertEqual(maker.made(), told)
        if told[0] == "none":
            return None
        self.assertEqual(told[1], fresh[1])
        return told[1]


class Wishes(Checks):
    def test_numbers(self):
        maker = Maker(TWO)
        self.assertEqual([maker.wish(wish) for wish in (LOWER, UPPER, EITHER)], [0, 1, 2])
        self.assertEqual(maker.wish(program=LOWER), 3)
        self.assertEqual(maker.kept(), {
            0: ("wish", LOWER), 1: ("wish", UPPER), 2: ("wish", EITHER), 3: ("wish", LOWER)})
        self.assertEqual(len(maker), 4)

    def test_refused(self):
        maker = Maker(TWO)
        maker.wish(LOWER)
        for program, word, at in [
                (None, "form", 0), ((), "form", 0), ("yes", "form", 0), (("both", ("yes",), ("nor",)), "form", 2),
                (("atmost", ("in", 0), ("num", True)), "form", 2), (("in", 3), "input", 0), (("in", -1), "input", 0),
                (("atmost", ("in", 0), ("in", 3)), "input", 2), (("both", ("in", 0), ("yes",)), "kind", 0),
                (("not", ("not", ("in", 2))), "kind", 1), (("both", ("in", 5), ("nor",)), "form", 2),
                # These are programs, but tell a num.
                (("in", 2), "kind", 0), (("num", 1), "kind", 0), (("least", ("in", 0), ("in", 2)), "kind", 0),
                (("if", ("yes",), ("in", 0), ("in", 1)), "kind", 0)]:
            self.check_refused(maker, "wish", program, NoProgram, word, at)
        self.assertEqual(maker.wish(UPPER), 1)

    def test_by_the_kinds_of_the_head_and_the_answer(self):
        self.assertEqual(Maker(((), "truth")).wish(("in", 0)), 0)
        self.assertEqual(Maker(MIXED).wish(read("if in 1 in 2 atmost in 0 num 3")), 0)
        self.check_refused(Maker(((), "num")), "wish", ("in", 0), NoProgram, "kind", 0)
        self.check_refused(Maker(((), "truth")), "wish", ("in", 1), NoProgram, "input", 0)
        self.check_refused(Maker(MIXED), "wish", read("atmost in 0 in 2"), NoProgram, "kind", 0)
        self.check_refused(Maker(MIXED), "wish", read("not atmost in 0 in 2"), NoProgram, "kind", 1)


class Examples(Checks):
    def test_none_one_and_several(self):
        maker = Maker(TWO)
        self.assertEqual(maker.examples([]), [])
        self.assertEqual(maker.examples(()), [])
        self.assertEqual(len(maker), 0)
        self.assertEqual(maker.examples([((1, 2), 3)]), [0])
        self.assertEqual(maker.examples((((4, 5), 6), ((7, 8), 9))), [1, 2])
        self.assertEqual(maker.examples(some=[((0, 0), -1)]), [3])
        self.assertEqual(maker.kept(), {
            0: ("example", (1, 2), 3), 1: ("example", (4, 5), 6), 2: ("example", (7, 8), 9),
            3: ("example", (0, 0), -1)})

    def test_the_same_again(self):
        maker = Maker(TWO)
        self.assertEqual(maker.examples([((1, 2), 3), ((1, 2), 3)]), [0, 1])
        self.assertEqual(maker.examples([((1, 2), 3)]), [2])
        self.assertEqual(len(maker), 3)
        self.check_whole(maker, [read("in 0"), read("plus 1 in 1"), read("num 3")])
        maker.back(0)
        self.check_whole(maker, [read("in 0"), read("plus 1 in 1"), read("num 3")])
        maker.back(2)
        self.check_whole(maker, [read("in 0"), read("plus 1 in 1"), read("num 3")])
        maker.back(1)
        self.assertEqual(self.check_whole(maker, [read("in 0")]), [True])

    def test_among_wishes(self):
        maker = Maker(TWO)
        self.assertEqual(maker.wish(LOWER), 0)
        self.assertEqual(maker.examples([((1, 2), 3), ((4, 5), 6)]), [1, 2])
        self.assertEqual(maker.wish(UPPER), 3)
        self.assertEqual(maker.examples([((0, 0), 6)]), [4])
        self.assertEqual(list(maker.kept()), [0, 1, 2, 3, 4])

    def test_of_no_inputs(self):
        maker = Maker(((), "truth"))
        self.assertEqual(maker.examples([((), True), ((), True)]), [0, 1])
        self.check_refused(maker, "examples", [((), False)], Clash, 0, 0)
        self.check_refused(maker, "examples", [((), 1)], NoInputs, 0)

    def test_no_inputs(self):
        maker = Maker((("num", "truth"), "num"))
        maker.examples([((1, True), 3)])
        right = ((5, False), 2)
        for wrong in [((1,), 3), ((1, True, 1), 3), ((), 3), ((True, True), 3), ((1, 1), 3), ((1, 0), 3),
                      ((1, None), 3), (("1", True), 3), ((None, True), 3), (([1], True), 3), ([1, True], 3), (None, 3),
                      (1, 3), ("in", 3), ((1, True), True), ((1, True), False), ((1, True), None), ((1, True), "3"),
                      ((1, True), (3,)), ((2, True), True)]:
            self.check_refused(maker, "examples", [wrong], NoInputs, 0)
            self.check_refused(maker, "examples", [right, wrong], NoInputs, 1)
            self.check_refused(maker, "examples", (right, right, wrong, wrong), NoInputs, 2)
        self.assertEqual(maker.examples([right]), [1])
        truths = Maker(MIXED)
        for wrong in (((1, True), 1), ((1, True), 0), ((1, True), None)):
            self.check_refused(truths, "examples", [wrong], NoInputs, 0)

    def test_clashes_with_one_kept(self):
        maker = Maker(TWO)
        maker.wish(LOWER)
        maker.examples([((1, 2), 3), ((4, 5), 6), ((1, 2), 3)])
        self.check_refused(maker, "examples", [((1, 2), 4)], Clash, 0, 1)
        self.check_refused(maker, "examples", [((0, 0), 0), ((4, 5), 7)], Clash, 1, 2)
        self.check_refused(maker, "examples", [((1, 2), 3), ((1, 2), 4)], Clash, 1, 1)
        # The first clash is told, whatever number it has.
        self.check_refused(maker, "examples", [((4, 5), 7), ((1, 2), 4)], Clash, 0, 2)
        maker.back(1)
        self.check_refused(maker, "examples", [((1, 2), 4)], Clash, 0, 3)
        maker.back(3)
        self.assertEqual(maker.examples([((1, 2), 4)]), [4])

    def test_clashes_with_one_ahead_among_these(self):
        maker = Maker(TWO)
        self.check_refused(maker, "examples", [((1, 2), 3), ((1, 2), 4)], Clash, 1, 0)
        maker.wish(LOWER)
        self.check_refused(maker, "examples", [((0, 0), 0), ((1, 2), 3), ((1, 2), 3), ((1, 2), 4)],
                           Clash, 3, 2)
        self.check_refused(maker, "examples", [((0, 0), 0), ((1, 2), 3), ((0, 0), 1), ((1, 2), 4)],
                           Clash, 2, 1)
        maker.examples([((5, 5), 5)])
        # Of one kept and one ahead the kept one has the least number.
        self.check_refused(maker, "examples", [((5, 5), 5), ((5, 5), 6)], Clash, 1, 1)
        self.assertEqual(maker.examples([((1, 2), 3)]), [2])

    def test_no_inputs_ahead_of_a_clash(self):
        maker = Maker(TWO)
        maker.examples([((1, 2), 3)])
        self.check_refused(maker, "examples", [((1, 2), 4), ((1, True), 3)], NoInputs, 1)
        self.check_refused(maker, "examples", [((1, 2), True)], NoInputs, 0)
        self.check_refused(maker, "examples", [((1, 2), 4), ((1, 2), 5), ((0, 0), None)], NoInputs, 2)

    def test_truths_are_no_numbers(self):
        maker = Maker((("truth",), "num"))
        maker.examples([((True,), 1), ((False,), 0)])
        self.check_refused(maker, "examples", [((1,), 1)], NoInputs, 0)
        self.check_refused(maker, "examples", [((True,), 0)], Clash, 0, 0)


class Back(Checks):
    def test_gone_for_good(self):
        maker = Maker(TWO)
        maker.wish(LOWER)
        maker.examples([((1, 2), 3), ((4, 5), 6)])
        self.assertIsNone(maker.back(1))
        self.assertEqual(maker.kept(), {0: ("wish", LOWER), 2: ("example", (4, 5), 6)})
        self.assertEqual(maker.wish(UPPER), 3)
        self.assertIsNone(maker.back(number=3))
        self.assertEqual(maker.wish(UPPER), 4)
        for number in (0, 2, 4):
            maker.back(number)
        self.assertEqual((maker.kept(), len(maker)), ({}, 0))
        self.assertEqual(maker.examples([((1, 2), 9)]), [5])

    def test_not_kept(self):
        maker = Maker(TWO)
        self.check_refused(maker, "back", 0, NotKept, 0)
        maker.wish(LOWER)
        maker.examples([((1, 2), 3)])
        maker.back(0)
        for number in (0, 2, 3, -1, -2, 10 ** 30):
            self.check_refused(maker, "back", number, NotKept, number)
        maker.back(1)
        self.check_refused(maker, "back", 1, NotKept, 1)

    def test_no_number_is_used_by_what_is_refused(self):
        maker = Maker(TWO)
        numbers = []
        for turn in range(4):
            numbers.append(maker.wish(LOWER))
            self.check_refused(maker, "wish", ("in", 9), NoProgram, "input", 0)
            self.check_refused(maker, "examples", [((turn, 0), 1), ((turn, 0), 2)], Clash, 1, 2 * turn + 1)
            self.check_refused(maker, "examples", [((turn, 1), 1), (turn, 2)], NoInputs, 1)
            self.check_refused(maker, "back", 99, NotKept, 99)
            numbers += maker.examples([((turn, 0), 1)])
            maker.back(numbers[-1])
        self.assertEqual(numbers, list(range(8)))


class Kept(Checks):
    def test_dicts_are_new(self):
        maker = Maker(TWO)
        maker.wish(LOWER)
        kept = maker.kept()
        kept[0] = kept[7] = ("wish", UPPER)
        maker.kept().clear()
        self.assertEqual(maker.kept(), {0: ("wish", LOWER)})
        self.assertEqual(len(maker), 1)

    def test_what_is_handed_in_may_be_changed_later(self):
        maker = Maker(TWO)
        some = [((1, 2), 3)]
        numbers = maker.examples(some)
        some.append(((4, 5), 6))
        some[0] = None
        numbers.append(8)
        self.assertEqual(maker.kept(), {0: ("example", (1, 2), 3)})
        self.assertEqual(maker.examples([((7, 7), 7)]), [1])

    def test_in_the_order_of_the_numbers(self):
        maker = Maker(TWO)
        for turn in range(6):
            maker.wish(LOWER)
            maker.examples([((turn, 0), 0)])
            if turn % 2:
                maker.back(turn)
        self.assertEqual(list(maker.kept()), [0, 2, 4, 6, 7, 8, 9, 10, 11])


class Whole(Checks):
    PROGRAMS = [read(text) for text in (
        "in 0", "in 1", "most in 0 in 1", "most in 1 in 0", "least in 0 in 1", "num 5", "plus 1 most in 0 in 1",
        "if atmost in 0 in 1 in 1 in 0", "if atmost in 0 num 3 most in 0 in 1 num 1000")]

    def test_met_just_where_all_is_met(self):
        maker = Maker(TWO)
        self.assertEqual(self.check_whole(maker, self.PROGRAMS), [True] * len(self.PROGRAMS))
        maker.wish(LOWER)
        self.check_whole(maker, self.PROGRAMS)
        maker.wish(UPPER)
        self.check_whole(maker, self.PROGRAMS)
        maker.examples([((3, 5), 5), ((8, 2), 8)])
        self.assertIn(True, self.check_whole(maker, self.PROGRAMS))
        maker.wish(EITHER)
        self.assertIn(False, self.check_whole(maker, self.PROGRAMS))
        maker.examples([((0, 0), 1)])
        self.assertEqual(self.check_whole(maker, self.PROGRAMS), [False] * len(self.PROGRAMS))
        maker.back(5)
        maker.back(0)
        self.assertIn(True, self.check_whole(maker, self.PROGRAMS))

    def test_the_same_while_it_keeps_the_same(self):
        maker = Maker(TWO)
        maker.wish(LOWER)
        maker.examples([((3, 5), 5)])
        whole = maker.whole()
        maker.made()
        maker.wish(UPPER)
        maker.back(2)
        self.assertEqual(maker.whole(), whole)
        other = Maker(TWO)
        other.wish(LOWER)
        other.examples([((3, 5), 5)])
        self.assertEqual(other.whole(), whole)

    def test_as_much_as_may_be_kept(self):
        maker = Maker(TWO)
        for wish in (LOWER, UPPER, EITHER, LOWER, UPPER, EITHER):
            maker.wish(wish)
        maker.examples([((x, y), max(x, y)) for x in range(4) for y in (-5, 0, 10 ** 6)])
        self.check_whole(maker, self.PROGRAMS)


class Made(Checks):
    def test_of_all_that_is_kept(self):
        maker = Maker(TWO)
        self.assertEqual(self.check_made(maker), ("in", 0))
        maker.wish(UPPER)
        self.assertEqual(self.check_made(maker), ("in", 1))
        maker.wish(LOWER)
        self.assertEqual(self.check_made(maker), read("most in 0 in 1"))
        maker.examples([((3, 5), 6)])
        self.assertEqual(self.check_made(maker), read("plus 1 most in 0 in 1"))
        maker.examples([((4, 4), 4)])
        self.assertIsNone(self.check_made(maker))
        maker.back(2)
        self.assertEqual(self.check_made(maker), read("most in 0 in 1"))
        maker.back(0)
        maker.back(1)
        self.assertEqual(self.check_made(maker), ("in", 0))

    def test_examples_alone(self):
        maker = Maker(TWO)
        maker.examples([((1, 5), 5), ((7, 2), 7)])
        self.assertEqual(self.check_made(maker), read("most in 0 in 1"))
        maker.examples([((-3, -9), 0)])
        self.assertEqual(self.check_made(maker), made(TWO, wish_of(TWO, [((1, 5), 5), ((7, 2), 7), ((-3, -9), 0)]))[1])
        maker.examples([((1, 5), 5)])
        self.check_made(maker)

    def test_whatever_was_kept_or_asked_ahead(self):
        maker = Maker(TWO)
        maker.wish(read("no"))
        self.assertIsNone(self.check_made(maker))
        maker.back(0)
        maker.examples([((1, 1), 9), ((0, 0), 3), ((5, 6), 1)])
        maker.made()
        for number in (1, 2, 3):
            maker.back(number)
        for wish in (EITHER, UPPER, LOWER):
            maker.wish(wish)
            maker.made()
        other = Maker(TWO)
        for wish in (LOWER, UPPER, EITHER):
            other.wish(wish)
        self.assertEqual(maker.made()[:2], ("made", read("most in 0 in 1")))
        self.assertEqual(other.made()[1], maker.made()[1])

    def test_of_both_kinds(self):
        maker = Maker(MIXED, stock=CHOICES, most=6)
        maker.examples([((1, True), False), ((1, False), True)])
        self.assertEqual(self.check_made(maker, CHOICES, 6), read("if in 1 atmost in 0 num -1 yes"))
        maker = Maker(((), "num"))
        maker.wish(read("both atmost num 3 in 0 atmost in 0 num 5"))
        self.assertEqual(self.check_made(maker), read("plus 1 plus 1 num 1"))
        maker = Maker(((), "truth"), most=2)
        self.assertIsNone(self.check_made(maker, most=2))

    def test_stocks_and_weights(self):
        wish = read("both atmost in 1 plus 4 in 0 atmost plus 4 in 0 in 1")
        for stock, most, text in [(STOCK, 5, "plus 1 plus 1 plus 1 plus 1 in 0"), (STOCK, 4, None),
                                  (STEPS, 3, "plus 2 plus 2 in 0"), (TURNED, 6, "plus 1 plus 1 plus 1 plus 1 in 0")]:
            maker = Maker(ONE, stock=stock, most=most)
            maker.wish(wish)
            self.assertEqual(self.check_made(maker, stock, most), None if text is None else read(text))
        maker = Maker(ONE)
        maker.wish(wish)
        self.assertEqual(maker.made()[1], read("plus 1 plus 1 plus 1 plus 1 in 0"))
        maker.wish(read("no"))
        self.assertEqual(maker.made()[0], "none")

    def test_drawn_ones(self):
        draw = chance.drawer(81)
        told = []
        for turn in range(60):
            kinds, kind = draw.choice(chance.KINDS), draw.choice(("num", "truth"))
            doer = chance.program(draw, kinds, kind, draw.randint(1, 5), far=1)
            maker = Maker((kinds, kind))
            for part in range(draw.randint(0, 2)):
                maker.wish(chance.program(draw, (*kinds, kind), "truth", draw.randint(3, 12), far=1, compares=3))
            inputs = list(dict.fromkeys(chance.inputs(draw, kinds, 9) for part in range(draw.randint(0, 6))))
            maker.examples([(one, plain.value(doer, one)) for one in inputs])
            told.append(self.check_made(maker))
        self.assertGreater(told.count(None), 5)
        self.assertGreater(len(told) - told.count(None), 5)


class Logs(Checks):
    def test_each_deed(self):
        maker = Maker(TWO)
        self.assertEqual(maker.log(), [])
        due = []
        for word, deed in [("wish", lambda: maker.wish(LOWER)), ("examples", lambda: maker.examples([((1, 2), 3)])),
                           ("examples", lambda: maker.examples([])), ("whole", lambda: maker.whole()),
                           ("made", lambda: maker.made()), ("back", lambda: maker.back(0))]:
            deed()
            due += [("in", word), ("out", word)]
            self.assertEqual(maker.log(), due)
            self.assertIs(maker.is_busy(), False)
        maker.kept(), maker.log(), maker.is_busy(), len(maker)
        self.assertEqual(maker.log(), due)

    def test_refused_ones(self):
        maker = Maker(TWO)
        for word, deed, error in [
                ("wish", lambda: maker.wish(("in", 0)), NoProgram), ("back", lambda: maker.back(0), NotKept),
                ("examples", lambda: maker.examples([((1,), 3)]), NoInputs),
                ("examples", lambda: maker.examples([((1, 1), 3), ((1, 1), 4)]), Clash)]:
            ahead = maker.log()
            with self.assertRaises(error):
                deed()
            self.assertEqual(maker.log(), [*ahead, ("in", word), ("out", word)])
            self.assertIs(maker.is_busy(), False)

    def test_busy_in_the_middle(self):
        maker = Maker(TWO)
        seen = []

        class Watched(list):
            def __iter__(self):
                seen.append((maker.is_busy(), maker.log()))
                return list.__iter__(self)

        maker.examples(Watched([((1, 2), 3)]))
        self.assertEqual(seen[0], (True, [("in", "examples")]))
        self.assertIs(maker.is_busy(), False)

    def test_lists_are_new(self):
        maker = Maker(TWO)
        maker.wish(LOWER)
        maker.log().clear()
        self.assertEqual(maker.log(), [("in", "wish"), ("out", "wish")])


class Equal(Checks):
    def test_alike(self):
        one, other = Maker(TWO), Maker(TWO, stock=STOCK, most=5)
        self.assertEqual(one, other)
        self.assertIs(one == other, True)
        self.assertIs(one != other, False)
        for maker in (one, other):
            maker.wish(LOWER)
            maker.examples([((1, 2), 3)])
        self.assertEqual(one, other)
        # Neither the log nor the numbers of what is gone make a difference.
        one.made()
        one.wish(UPPER)
        self.assertNotEqual(one, other)
        one.back(2)
        self.assertEqual(one, other)

    def test_unlike(self):
        self.assertNotEqual(Maker(TWO), Maker(ONE))
        self.assertNotEqual(Maker(TWO), Maker((TWO[0], "truth")))
        self.assertNotEqual(Maker(TWO), Maker(TWO, stock=TURNED))
        self.assertNotEqual(Maker(TWO), Maker(TWO, most=4))
        one, other = Maker(TWO), Maker(TWO)
        one.wish(LOWER)
        self.assertNotEqual(one, other)
        other.wish(UPPER)
        self.assertNotEqual(one, other)
        other.back(0)
        other.wish(LOWER)
        # The same wish, but by another number.
        self.assertNotEqual(one, other)
        one.wish(LOWER)
        one.back(0)
        self.assertEqual(one, other)
        one.examples([((1, 2), 3)])
        other.examples([((1, 2), 4)])
        self.assertNotEqual(one, other)

    def test_to_other_things(self):
        maker = Maker(TWO)
        for thing in (None, 0, {}, [], "", (), maker.kept(), TWO, MIXED, STOCK, object()):
            self.assertIs(maker == thing, False)
            self.assertIs(thing == maker, False)
            self.assertIs(maker != thing, True)
        self.assertIs(maker == maker, True)

    def test_what_is_left_out(self):
        found = inspect.signature(Maker).parameters
        self.assertEqual((found["stock"].default, found["most"].default), (STOCK, 5))
        self.assertEqual(Maker(head=TWO), Maker(TWO))
        with self.assertRaises(TypeError):
            Maker(TWO, STOCK)


if __name__ == "__main__":
    unittest.main()
