"""Points 4 to 7, and of point 2 what it says of leastmaker.programs."""

import itertools
import unittest

from leastmaker.errors import NoHead, NoProgram
from leastmaker.programs import kind_of, knots, look_head, put
from tests import plain

DEPTH = 20000


def chain(front, last, many=DEPTH):
    """A program of a part in a part, so deep that Python can't call itself as often."""
    program = last
    for turn in range(many):
        program = (*front, program)
    return program


class LookHead(unittest.TestCase):
    def check_refused(self, head, word, at):
        with self.subTest(head=head), self.assertRaises(NoHead) as caught:
            look_head(head)
        self.assertEqual((caught.exception.word, caught.exception.at), (word, at))

    def test_heads_of_no_input_to_several(self):
        for many in range(6):
            for kinds in itertools.product(("num", "truth"), repeat=many):
                for kind in ("num", "truth"):
                    self.assertIs(look_head((kinds, kind)), True)
                    self.assertIs(look_head(head=(kinds, kind)), True)

    def test_form(self):
        no_pairs = [
            None, True, False, 0, 5, -1, "", "num", "nt", "num truth", (), ((),), ("num",), (("num",),),
            ((), "num", "num"), (("num",), "num", None), ("num", ("num",)), ("num", "truth"), (None, "num"),
            (True, "num"), (0, "num"), ("", "num"), ("", ()), (None, None), ((), (), ()), ("num", "num", "num"),
        ]
        for head in no_pairs:
            self.check_refused(head, "form", 0)

    def test_kind_at_the_first_input_without_one(self):
        for wrong in (None, True, False, 0, 1, "", "Num", "truth ", "nums", "number", (), ("num",), (("num",), "num")):
            for many in range(4):
                for at in range(many):
                    kinds = ("num",) * at + (wrong,) + ("truth",) * (many - at - 1)
                    self.check_refused((kinds, "num"), "kind", at)
                    self.check_refused((kinds, wrong), "kind", at)
                    self.check_refused((kinds + (None,), "truth"), "kind", at)

    def test_kind_of_the_answer(self):
        for wrong in (None, True, 0, "", "num truth", "yes", (), ("num",), ("num", "num")):
            for many in range(5):
                self.check_refused((("truth",) * many, wrong), "kind", many)

    def test_deep_tuples(self):
        deep = chain((), ("num",))
        with self.assertRaises(NoHead) as caught:
            look_head((("num",), deep))
        self.assertEqual((caught.exception.word, caught.exception.at), ("kind", 1))
        with self.assertRaises(NoHead) as caught:
            look_head(deep)
        self.assertEqual((caught.exception.word, caught.exception.at), ("form", 0))


class KindOf(unittest.TestCase):
    def check_refused(self, kinds, program, word, at):
        with self.subTest(program=program), self.assertRaises(NoProgram) as caught:
            kind_of(kinds, program)
        self.assertEqual((caught.exception.word, caught.exception.at), (word, at))

    def check_as_plain(self, kinds, program):
        try:
            told = kind_of(kinds, program)
        except NoProgram as error:
            told = error.word, error.at
        self.assertEqual(told, plain.kind_or_refusal(kinds, program), program)

    def test_programs_of_every_word(self):
        for program, kind, text in plain.SAMPLES:
            with self.subTest(program=program):
                self.assertEqual(kind_of(plain.KINDS, program), kind)
                self.assertEqual(kind_of(program=program, kinds=plain.KINDS), kind)

    def test_without_inputs(self):
        self.assertEqual(kind_of((), ("num", 3)), "num")
        self.assertEqual(kind_of((), ("yes",)), "truth")
        self.check_refused((), ("in", 0), "input", 0)

    def test_form_at_the_whole(self):
        for thing in plain.NO_FORMS:
            self.check_refused(plain.KINDS, thing, "form", 0)

    def test_form_at_a_part(self):
        for thing in plain.NO_FORMS:
            self.check_refused(plain.KINDS, ("plus", 1, thing), "form", 1)
            self.check_refused(plain.KINDS, ("least", ("plus", 1, ("in", 0)), thing), "form", 3)
            self.check_refused(plain.KINDS, ("if", ("in", 1), thing, thing), "form", 2)
            self.check_refused(plain.KINDS, ("both", ("not", ("yes",)), ("not", thing)), "form", 4)

    def test_a_knot_of_no_form_has_no_parts(self):
        inner = ("plus", True, ("nor",))
        self.check_refused(plain.KINDS, ("least", ("least", ("in", 0), inner), None), "form", 3)
        self.check_refused(plain.KINDS, ("least", ("in", 0), ("in", 0), None), "form", 0)

    def test_any_whole_number_has_the_form(self):
        for number in (0, 1, -1, 1000, 10 ** 30, -10 ** 30):
            self.assertEqual(kind_of((), ("num", number)), "num")
            self.assertEqual(kind_of((), ("plus", number, ("num", 0))), "num")
            self.check_refused((), ("in", number), "input", 0)

    def test_inputs_that_are_not_there(self):
        for many in range(4):
            kinds = ("num",) * many
            for number in range(-5, 6):
                if 0 <= number < many:
                    self.assertEqual(kind_of(kinds, ("in", number)), "num")
                else:
                    self.check_refused(kinds, ("in", number), "input", 0)
                    self.check_refused(kinds, ("plus", 1, ("in", number)), "input", 1)
                    self.check_refused(kinds, ("least", ("num", 0), ("in", number)), "input", 2)

    def test_kinds_that_are_not_due(self):
        truth, number = ("in", 1), ("in", 0)
        for word in ("least", "most", "atmost"):
            self.check_refused(plain.KINDS, (word, truth, number), "kind", 0)
            self.check_refused(plain.KINDS, (word, number, truth), "kind", 0)
        for word in ("both", "either"):
            self.check_refused(plain.KINDS, (word, truth, number), "kind", 0)
            self.check_refused(plain.KINDS, (word, number, truth), "kind", 0)
        self.check_refused(plain.KINDS, ("plus", 1, truth), "kind", 0)
        self.check_refused(plain.KINDS, ("not", number), "kind", 0)
        self.check_refused(plain.KINDS, ("not", ("not", ("not", number))), "kind", 2)

    def test_kinds_of_if(self):
        truth, number = ("in", 1), ("in", 0)
        self.check_refused(plain.KINDS, ("if", number, number, number), "kind", 0)
        self.check_refused(plain.KINDS, ("if", truth, number, truth), "kind", 0)
        self.check_refused(plain.KINDS, ("if", truth, truth, number), "kind", 0)
        # The inner if has the kind of its second program by itself, so the whole is right but for it.
        mixed = ("if", truth, number, truth)
        self.check_refused(plain.KINDS, ("plus", 1, mixed), "kind", 1)
        self.check_refused(plain.KINDS, ("not", mixed), "kind", 0)
        self.check_refused(plain.KINDS, ("if", truth, mixed, number), "kind", 2)
        self.check_refused(plain.KINDS, ("if", truth, number, mixed), "kind", 3)
        self.check_refused(plain.KINDS, ("if", mixed, number, number), "kind", 0)

    def test_form_then_input_then_kind_whatever_the_place(self):
        wrong_kind, no_input, no_form = ("not", ("num", 1)), ("in", 9), ("in", True)
        self.check_refused(plain.KINDS, ("if", wrong_kind, no_input, no_form), "form", 4)
        self.check_refused(plain.KINDS, ("if", wrong_kind, no_input, no_input), "input", 3)
        self.check_refused(plain.KINDS, ("least", wrong_kind, ("plus", 0, no_input)), "input", 4)
        self.check_refused(plain.KINDS, ("both", ("yes",), ("both", wrong_kind, wrong_kind)), "kind", 3)
        self.check_refused(plain.KINDS, ("not", ("plus", 2, wrong_kind)), "kind", 0)

    def test_all_small_programs_and_things(self):
        leaves = [("in", 0), ("in", 1), ("in", 2), ("in", -1), ("num", 4), ("num", True), ("yes",), None]
        for parts in itertools.product(leaves, repeat=3):
            self.check_as_plain(("num", "truth"), ("if", *parts))
            for word in ("least", "most", "atmost", "both", "either"):
                self.check_as_plain(("num", "truth"), (word, *parts[:2]))
                self.check_as_plain(("num", "truth"), (word, parts[0], ("if", *parts)))
                self.check_as_plain(("num", "truth"), (word, ("if", *parts), ("not", parts[1])))
            self.check_as_plain(("num", "truth"), ("plus", 1, ("if", *parts)))
            self.check_as_plain(("num", "truth"), ("not", ("if", *parts)))
            self.check_as_plain(("num", "truth"), ("if", parts[0], ("if", *parts), ("plus", 1, parts[2])))
            self.check_as_plain(("truth", "num", "num"), ("if", ("not", parts[0]), parts[1], ("if", *parts)))

    def test_deep_programs(self):
        self.assertEqual(kind_of(("num",), chain(("plus", 1), ("in", 0))), "num")
        self.assertEqual(kind_of(("num", "truth"), chain(("if", ("in", 1), ("in", 0)), ("in", 0))), "num")
        for last, word in (((), "form"), (("in", 1), "input")):
            with self.assertRaises(NoProgram) as caught:
                kind_of(("truth",), chain(("not",), last))
            self.assertEqual((caught.exception.word, caught.exception.at), (word, DEPTH))
        with self.assertRaises(NoProgram) as caught:
            kind_of(("num",), chain(("not",), ("in", 0)))
        self.assertEqual((caught.exception.word, caught.exception.at), ("kind", DEPTH - 1))

    def test_deep_words(self):
        deep = chain((), ("yes",))
        with self.assertRaises(NoProgram) as caught:
            kind_of((), (deep, deep))
        self.assertEqual((caught.exception.word, caught.exception.at), ("form", 0))


class Knots(unittest.TestCase):
    def test_text_order(self):
        both = ("both", ("not", ("yes",)), ("atmost", ("plus", 1, ("in", 0)), ("num", 2)))
        whole = ("if", both, ("in", 1), ("least", ("in", 2), ("num", -3)))
        self.assertEqual(knots(whole), [
            whole, both, ("not", ("yes",)), ("yes",), ("atmost", ("plus", 1, ("in", 0)), ("num", 2)),
            ("plus", 1, ("in", 0)), ("in", 0), ("num", 2), ("in", 1), ("least", ("in", 2), ("num", -3)),
            ("in", 2), ("num", -3),
        ])

    def test_each_as_often_as_it_stands(self):
        leaf = ("in", 0)
        self.assertEqual(knots(("most", leaf, leaf)), [("most", leaf, leaf), leaf, leaf])

    def test_programs_of_every_word(self):
        for program, kind, text in plain.SAMPLES:
            self.assertEqual(knots(program), plain.knots(program))
            self.assertEqual(knots(program=program), plain.knots(program))

    def test_a_new_list_each_time(self):
        for program, kind, text in plain.SAMPLES:
            first = knots(program)
            self.assertIs(type(first), list)
            first.append("more")
            first[0] = None
            self.assertEqual(knots(program), plain.knots(program))
            self.assertEqual(kind_of(plain.KINDS, program), kind)

    def test_what_has_no_form_has_no_parts(self):
        for thing in plain.NO_FORMS:
            self.assertEqual(knots(thing), [thing])
            self.assertEqual(knots(("not", thing)), [("not", thing), thing])

    def test_deep_programs(self):
        self.assertEqual(len(knots(chain(("plus", 1), ("in", 0)))), DEPTH + 1)
        told = knots(chain(("least", ("in", 0)), ("in", 1)))
        self.assertEqual(len(told), 2 * DEPTH + 1)
        self.assertEqual((told[1], told[-2], told[-1]), (("in", 0), ("in", 0), ("in", 1)))


class Put(unittest.TestCase):
    def check_tuples(self, program):
        for knot in plain.knots(program):
            self.assertTrue(plain.is_formed(knot), knot)

    def test_each_input_gives_way(self):
        some = (("plus", 1, ("in", 2)), ("not", ("in", 1)), ("num", 5))
        self.assertEqual(put(("in", 0), some), some[0])
        self.assertEqual(put(("in", 2), some), some[2])
        self.assertEqual(put(("if", ("in", 1), ("in", 0), ("plus", -2, ("in", 2))), some),
                         ("if", ("not", ("in", 1)), ("plus", 1, ("in", 2)), ("plus", -2, ("num", 5))))

    def test_all_at_once(self):
        self.assertEqual(put(("least", ("in", 0), ("in", 1)), (("in", 1), ("in", 0))), ("least", ("in", 1), ("in", 0)))
        turned = (("in", 1), ("in", 2), ("in", 0))
        self.assertEqual(put(("if", ("in", 0), ("in", 1), ("in", 2)), turned),
                         ("if", ("in", 1), ("in", 2), ("in", 0)))
        self.assertEqual(put(("most", ("in", 0), ("in", 0)), (("most", ("in", 0), ("in", 1)), ("num", 9))),
                         ("most", ("most", ("in", 0), ("in", 1)), ("most", ("in", 0), ("in", 1))))

    def test_without_inputs_in_it(self):
        for program in (("num", 0), ("yes",), ("plus", 0, ("num", 3)), ("both", ("yes",), ("no",))):
            self.assertEqual(put(program, ()), program)
            self.assertEqual(put(program, (("num", 1),)), program)

    def test_numbers_that_are_no_inputs_stay(self):
        self.assertEqual(put(("plus", 0, ("least", ("num", 0), ("in", 0))), (("num", 8),)),
                         ("plus", 0, ("least", ("num", 0), ("num", 8))))

    def test_programs_of_every_word(self):
        choices = (("num", 1), ("in", 1), ("if", ("in", 1), ("in", 0), ("in", 2)), ("in", 2))
        for program, kind, text in plain.SAMPLES:
            for some in itertools.product(choices, repeat=3):
                told = put(program, some)
                self.assertEqual(told, plain.put(program, some))
                self.assertEqual(put(some=some, program=program), told)
                self.check_tuples(told)
            self.assertEqual(put(program, (("in", 0), ("in", 1), ("in", 2))), program)

    def test_what_was_handed_in_stays(self):
        program = ("least", ("in", 0), ("plus", 1, ("in", 1)))
        some = (("in", 1), ("plus", 2, ("in", 0)))
        first = put(program, some)
        self.assertEqual(program, ("least", ("in", 0), ("plus", 1, ("in", 1))))
        self.assertEqual(some, (("in", 1), ("plus", 2, ("in", 0))))
        self.assertEqual(put(program, some), first)

    def test_what_was_put_is_handed_on(self):
        program = ("in", 0)
        for turn in range(9):
            program = put(("least", ("in", 0), ("in", 0)), (program,))
        self.assertEqual(len(knots(program)), 1023)
        self.assertEqual(kind_of(("num",), program), "num")

    def test_deep_programs(self):
        told = put(chain(("plus", 1), ("in", 0)), (chain(("plus", 2), ("num", 7)),))
        fronts = [knot[:2] for knot in knots(told)]
        self.assertEqual(fronts, [("plus", 1)] * DEPTH + [("plus", 2)] * DEPTH + [("num", 7)])


if __name__ == "__main__":
    unittest.main()
