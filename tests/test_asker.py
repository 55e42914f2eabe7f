"""Point 29: askers, and of points 2 and 3 what they say of leastmaker.asker."""

import inspect
import unittest

from leastmaker.always import same
from leastmaker.asker import Asker
from leastmaker.errors import NoAnswer, NoDoer, NoQuestion
from leastmaker.stocks import STOCK
from leastmaker.texts import read
from tests import chance, plain
from tests.test_making import ALL_WORDS
from tests.test_shelves import CHOICES, HEAVY, LOGIC, NONE, STEPS, STOCKS, TURNED

ONE = (("num",), "num")
TWO = (("num", "num"), "num")


def stands(asker):
    """All that an asker tells but its log."""
    return asker.question(), asker.told(), asker.heard(), len(asker), asker.is_hearing()


class Checks(unittest.TestCase):
    def candidates(self, asker, head, stock, most):
        """The programs that tell all that was heard, by going through all of them."""
        return [program for load, kind, program in plain.programs_of(head[0], stock, most)
                if kind == head[1] and all(plain.value(program, inputs) == answer for inputs, answer in asker.heard())]

    def check(self, asker, head, stock, most):
        """The question and the told program are right for what was heard."""
        left = self.candidates(asker, head, stock, most)
        self.assertEqual(asker.told(), left[0] if left else None)
        inputs = asker.question()
        if inputs is None:
            self.assertTrue(all(same(head[0], left[0], other)[0] == "same" for other in left[1:]))
        else:
            self.assertIs(type(inputs), tuple)
            found = [type(thing) for thing in inputs]
            self.assertEqual(found, [{"num": int, "truth": bool}[kind] for kind in head[0]])
            self.assertGreater(len({plain.value(program, inputs) for program in left}), 1)
        self.assertIs(asker.is_hearing(), False)
        self.assertEqual(asker.question(), inputs)
        return inputs

    def ask_all(self, head, doer, stock, most):
        """An asker that has heard all that it asks."""
        asker = Asker(head, stock=stock, most=most)
        asked = []
        while self.check(asker, head, stock, most) is not None:
            inputs = asker.question()
            self.assertNotIn(inputs, asked)
            asked.append(inputs)
            self.assertIsNone(asker.hear(plain.value(doer, inputs)))
            self.assertEqual(asker.heard(), [(one, plain.value(doer, one)) for one in asked])
            self.assertEqual(len(asker), len(asked))
        return asker

    def check_refused(self, asker, answer, error):
        """Hearing this is refused, and changes nothing but the log."""
        ahead, log = stands(asker), asker.log()
        with self.assertRaises(error) as caught:
            asker.hear(answer)
        self.assertEqual(stands(asker), ahead)
        self.assertEqual(asker.log(), [*log, ("ask", len(asker)), ("refused", len(asker))])
        return caught.exception


class Found(Checks):
    def test_programs_of_the_stock(self):
        for text in ("in 0", "in 1", "num 0", "num 1", "plus 1 in 0", "plus -1 plus -1 in 1", "least in 0 in 1",
                     "most in 1 in 0", "most in 0 num 0", "plus 1 plus 1 num 1", "least in 1 in 1"):
            asker = self.ask_all(TWO, read(text), STOCK, 3)
            self.assertEqual(same(TWO[0], asker.told(), read(text))[0], "same")

    def test_each_program_of_small_stocks(self):
        for head, stock, most in [(ONE, STOCK, 3), ((("truth",), "truth"), LOGIC, 3), (((), "num"), STOCK, 3),
                                  ((("num", "truth"), "num"), CHOICES, 3), ((("num",), "truth"), STOCK, 3),
                                  (ONE, STEPS, 4), ((("truth", "truth"), "truth"), ALL_WORDS, 3)]:
            draw = chance.drawer(71)
            every = [program for load, kind, program in plain.programs_of(head[0], stock, most) if kind == head[1]]
            for doer in draw.sample(every, min(12, len(every))):
                asker = self.ask_all(head, doer, stock, most)
                self.assertEqual(same(head[0], asker.told(), doer)[0], "same")
                self.assertEqual(len(asker.log()), 2 * len(asker))

    def test_doers_that_are_the_same_as_one_of_the_stock(self):
        doer = read("if atmost in 0 in 1 in 0 in 1")
        self.assertEqual(self.ask_all(TWO, doer, STOCK, 3).told(), read("least in 0 in 1"))
        self.assertEqual(self.ask_all(ONE, read("num 3"), STOCK, 3).told(), read("plus 1 plus 1 num 1"))

    def test_heavier_ones(self):
        doer = read("plus 1 most in 0 in 1")
        self.assertEqual(self.ask_all(TWO, doer, STOCK, 4).told(), doer)

    def test_nothing_to_ask(self):
        for head, stock, most, told in [
                (ONE, NONE, 4, ("in", 0)), (((), "num"), (((7, 1),), (), ()), 1, ("num", 7)),
                ((("num", "truth"), "truth"), NONE, 2, ("in", 1))]:
            asker = Asker(head, stock=stock, most=most)
            self.assertIsNone(self.check(asker, head, stock, most))
            self.assertEqual(asker.told(), told)
            self.check_refused(asker, 1, NoQuestion)

    def test_no_program_of_the_kind(self):
        for head, stock, most in [((("num",), "truth"), STOCK, 2), ((("truth",), "num"), NONE, 4),
                                  (((), "num"), HEAVY, 4), (((), "truth"), NONE, 1)]:
            asker = Asker(head, stock=stock, most=most)
            self.assertIsNone(asker.told())
            self.assertIsNone(asker.question())
            self.assertEqual((asker.heard(), asker.log(), len(asker)), ([], [], 0))
            self.check_refused(asker, True, NoQuestion)

    def test_the_last_answer_but_one_asks_on(self):
        asker = Asker(TWO)
        questions = 0
        while asker.question() is not None:
            asker.hear(plain.value(("in", 1), asker.question()))
            questions += 1
        self.assertGreater(questions, 1)
        self.assertEqual(asker.told(), ("in", 1))


class Refused(Checks):
    def test_nothing_is_asked(self):
        asker = self.ask_all(TWO, read("least in 0 in 1"), STOCK, 3)
        for answer in (0, 1, True, None, "x"):
            self.check_refused(asker, answer, NoQuestion)
        self.assertEqual(asker.told(), read("least in 0 in 1"))

    def test_answers_of_the_other_kind(self):
        asker = Asker(TWO)
        for answer in (True, False, None, "1", "", (1,), ()):
            error = self.check_refused(asker, answer, NoAnswer)
            self.assertIs(error.answer, answer)
        asker = Asker((("num",), "truth"))
        for answer in (0, 1, -5, None, "yes", (True,)):
            error = self.check_refused(asker, answer, NoAnswer)
            self.assertIs(error.answer, answer)
        asker.hear(plain.value(read("atmost in 0 num 0"), asker.question()))
        self.assertEqual(len(asker), 1)

    def test_no_candidate_tells_it(self):
        for answer in (10 ** 6, -10 ** 6, 777):
            asker = Asker(TWO)
            error = self.check_refused(asker, answer, NoDoer)
            self.assertEqual(error.inputs, asker.question())

    def test_doers_that_are_none(self):
        refused = 0
        for text in ("plus 1000 in 0", "plus 5 in 0", "if atmost in 0 num 100 in 1 in 0", "least in 0 plus 3 in 1"):
            asker = Asker(TWO)
            asked = []
            while asker.question() is not None and len(asked) == len(asker):
                asked.append(asker.question())
                answer = plain.value(read(text), asker.question())
                if any(plain.value(program, asked[-1]) == answer
                       for program in self.candidates(asker, TWO, STOCK, 3)):
                    asker.hear(answer)
                else:
                    self.assertEqual(self.check_refused(asker, answer, NoDoer).inputs, asked[-1])
                    refused += 1
            self.assertEqual([inputs for inputs, answer in asker.heard()], asked[:len(asker)])
        self.assertGreater(refused, 1)

    def test_open_again_behind_a_refusal(self):
        asker, other = Asker(TWO), Asker(TWO)
        doer = read("most in 0 num 0")
        while other.question() is not None:
            self.check_refused(asker, True, NoAnswer)
            self.check_refused(asker, 999999, NoDoer)
            self.assertEqual(asker.question(), other.question())
            asker.hear(plain.value(doer, asker.question()))
            other.hear(plain.value(doer, other.question()))
            self.assertEqual(stands(asker), stands(other))
        self.check_refused(asker, 3, NoQuestion)
        self.assertEqual(asker.told(), doer)

    def test_the_order_of_refusals(self):
        asker = Asker(ONE, stock=NONE, most=1)
        for answer in (True, None, 10 ** 6):
            self.check_refused(asker, answer, NoQuestion)


class Logs(Checks):
    def test_both_ends(self):
        asker = Asker(ONE)
        self.assertEqual(asker.log(), [])
        doer = read("plus 1 in 0")
        due = []
        for turn in range(100):
            if asker.question() is None:
                break
            self.check_refused(asker, "no", NoAnswer)
            asker.hear(plain.value(doer, asker.question()))
            due += [("ask", turn), ("refused", turn), ("ask", turn), ("heard", turn)]
            self.assertEqual(asker.log(), due)
        self.check_refused(asker, 5, NoQuestion)
        self.assertEqual(asker.log(), [*due, ("ask", len(asker)), ("refused", len(asker))])
        self.assertGreater(len(asker), 0)

    def test_lists_are_new(self):
        asker = Asker(ONE)
        asker.hear(plain.value(("in", 0), asker.question()))
        heard, log = asker.heard(), asker.log()
        asker.heard().clear()
        asker.log().append(1)
        self.assertEqual((asker.heard(), asker.log()), (heard, log))
        heard.clear()
        log.clear()
        self.assertEqual((len(asker.heard()), len(asker.log()), len(asker)), (1, 2, 1))

    def test_two_by_turns(self):
        doers = [read("least in 0 in 1"), read("plus -1 in 1")]
        askers = [Asker(TWO), Asker(TWO)]
        while any(asker.question() is not None for asker in askers):
            for asker, doer in zip(askers, doers):
                if asker.question() is not None:
                    asker.hear(plain.value(doer, asker.question()))
        for asker, doer in zip(askers, doers):
            self.assertEqual(asker.told(), doer)
            self.assertEqual(stands(asker), stands(self.ask_all(TWO, doer, STOCK, 3)))


class Drawn(Checks):
    def test_stocks_and_heads(self):
        draw = chance.drawer(72)
        found = 0
        for turn in range(50):
            head = (draw.choice(chance.KINDS[1:]), draw.choice(("num", "truth")))
            stock, most = STOCKS[turn % len(STOCKS)], draw.randint(1, 3)
            every = [program for load, kind, program in plain.programs_of(head[0], stock, most) if kind == head[1]]
            if every:
                doer = draw.choice(every)
                self.assertEqual(same(head[0], self.ask_all(head, doer, stock, most).told(), doer)[0], "same")
                found += 1
        self.assertGreater(found, 20)

    def test_what_is_left_out(self):
        found = inspect.signature(Asker).parameters
        self.assertEqual((found["stock"].default, found["most"].default), (STOCK, 3))
        self.assertEqual(self.check(Asker(head=TWO), TWO, STOCK, 3), Asker(TWO, stock=STOCK, most=3).question())
        asker = Asker(TWO, stock=TURNED)
        self.check(asker, TWO, TURNED, 3)
        asker.hear(answer=plain.value(("in", 0), asker.question()))
        with self.assertRaises(TypeError):
            Asker(TWO, STOCK)


if __name__ == "__main__":
    unittest.main()
