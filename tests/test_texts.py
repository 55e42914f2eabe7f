"""Point 8, and of point 2 what it says of leastmaker.texts."""

import itertools
import unittest

from leastmaker.errors import NoText
from leastmaker.programs import knots, put
from leastmaker.texts import read, show
from tests import plain


def read_or_refusal(text):
    try:
        return read(text)
    except NoText as error:
        return error.at


class ShowAndRead(unittest.TestCase):
    def check_refused(self, text, at):
        with self.subTest(text=text), self.assertRaises(NoText) as caught:
            read(text)
        self.assertEqual(caught.exception.at, at)

    def check_there_and_back(self, program, text):
        with self.subTest(text=text):
            self.assertEqual(show(program), text)
            self.assertEqual(read(text), program)

    def test_programs_of_every_word(self):
        for program, kind, text in plain.SAMPLES:
            self.check_there_and_back(program, text)
            self.assertEqual(show(program=program), text)
            self.assertEqual(read(text=text), program)

    def test_what_is_read_is_made_of_tuples_whole_numbers_and_texts(self):
        for program, kind, text in plain.SAMPLES:
            for knot in plain.knots(read(text)):
                self.assertTrue(plain.is_formed(knot), knot)

    def test_what_is_read_is_looked_at_by_no_head(self):
        self.check_there_and_back(("not", ("num", 3)), "not num 3")
        self.check_there_and_back(("in", 999999), "in 999999")
        self.check_there_and_back(("if", ("num", 1), ("yes",), ("in", 77)), "if num 1 yes in 77")
        self.check_there_and_back(("plus", 1, ("atmost", ("no",), ("no",))), "plus 1 atmost no no")

    def test_numbers(self):
        for number in (0, 1, 9, 10, 100, 1000, 12345, 100000, 123456, 999999):
            self.check_there_and_back(("num", number), f"num {number}")
            self.check_there_and_back(("in", number), f"in {number}")
            self.check_there_and_back(("plus", number, ("yes",)), f"plus {number} yes")
            if number:
                self.check_there_and_back(("num", -number), f"num -{number}")
                self.check_there_and_back(("plus", -number, ("yes",)), f"plus -{number} yes")

    def test_numbers_that_are_none(self):
        wrong = [
            "", "-", "--1", "1-", "-0", "+0", "+1", "00", "01", "007", "-01", "-00", "1000000", "-1000000", "9999999",
            "0000001", "1_0", "1.0", "1e3", "0x1", "x", "1x", "x1", "1,000", "yes", "in", "True", "None", "1\n", "\n1",
            "\n", "-\n1", "1-1", "12345678901234567890", "(1)",
        ]
        for word in wrong:
            self.check_refused(f"num {word}", 1)
            self.check_refused(f"in {word}", 1)
            self.check_refused(f"plus {word} in 0", 1)
            self.check_refused(f"least in 0 num {word}", 4)
            self.check_refused(f"plus 1 plus {word} in 0", 3)

    def test_no_input_below_nought(self):
        for word in ("-1", "-5", "-999999"):
            self.check_refused(f"in {word}", 1)
            self.check_refused(f"most num {word} in {word}", 4)
            self.assertEqual(read(f"num {word}"), ("num", int(word)))

    def test_shown_but_not_read(self):
        for number in (1000000, -1000000, 10 ** 30, -10 ** 30):
            self.assertEqual(show(("least", ("in", 0), ("num", number))), f"least in 0 num {number}")
            self.check_refused(f"least in 0 num {number}", 4)

    def test_blanks(self):
        self.check_refused("", 0)
        self.check_refused(" ", 0)
        self.check_refused("  ", 0)
        self.check_refused(" yes", 0)
        self.check_refused("yes ", 1)
        self.check_refused("in 0 ", 2)
        self.check_refused("in  0", 1)
        self.check_refused("in ", 1)
        self.check_refused("not  yes", 1)
        self.check_refused("not ", 1)
        self.check_refused("both yes  no", 2)
        self.check_refused("both yes no ", 3)
        self.check_refused("plus 1  in 0", 2)

    def test_other_signs(self):
        self.check_refused("yes\n", 0)
        self.check_refused("\nyes", 0)
        self.check_refused("not\nyes", 0)
        self.check_refused("not yes\n", 1)
        self.check_refused("Yes", 0)
        self.check_refused("not YES", 1)
        self.check_refused("not (yes)", 1)
        self.check_refused("true", 0)
        self.check_refused("0", 0)
        self.check_refused("num 1 2", 2)
        self.check_refused("yes 0", 1)
        self.check_refused("both ~ yes", 1)

    def test_a_word_more_a_word_fewer(self):
        for program, kind, text in plain.SAMPLES:
            words = text.split(" ")
            for more in ("yes", "0", "in", "", "x"):
                self.check_refused(f"{text} {more}", len(words))
                self.check_refused(f"{text} {more} {more}", len(words))
            for many in range(1, len(words)):
                self.check_refused(" ".join(words[:many]), many)

    def test_ends_too_early(self):
        self.check_refused("in", 1)
        self.check_refused("plus", 1)
        self.check_refused("plus 1", 2)
        self.check_refused("if", 1)
        self.check_refused("if yes num 1", 4)
        self.check_refused("if yes num", 3)

    def test_the_first_word_is_told(self):
        self.check_refused("x y", 0)
        self.check_refused("both x y", 1)
        self.check_refused("both yes y z", 2)
        self.check_refused("num x y", 1)
        self.check_refused("yes yes x", 1)

    def test_all_texts_of_few_words(self):
        few = ("in", "num", "yes", "plus", "most", "if", "0", "-1", "", "x")
        for many in range(1, 5):
            for words in itertools.product(few, repeat=many):
                self.assertEqual(read_or_refusal(" ".join(words)), plain.program_or_refusal(words), words)

    def test_each_word_at_each_place(self):
        few = [*plain.PARTS, "0", "-0", "01", "-12", "+1", "1000000", "-999999", "", "x"]
        for program, kind, text in plain.SAMPLES:
            words = text.split(" ")
            for at in range(len(words)):
                for word in few:
                    other = [*words[:at], word, *words[at + 1:]]
                    self.assertEqual(read_or_refusal(" ".join(other)), plain.program_or_refusal(other), other)

    def test_asked_again_the_same_is_told(self):
        for program, kind, text in plain.SAMPLES:
            first = read(text), show(program)
            read_or_refusal("if yes num")
            self.assertEqual((read(text), show(program)), first)


class SixtyKnots(unittest.TestCase):
    def check(self, text, at):
        """Read is a text of at most 60 knots (at is None), refused at this word is another one."""
        with self.subTest(text=text):
            told = read_or_refusal(text)
            if at is None:
                self.assertEqual(show(told), text)
                self.assertEqual(told, plain.first_program(tuple(text.split(" ")))[0])
            else:
                self.assertEqual(told, at)

    def test_chains(self):
        self.check("not " * 59 + "yes", None)
        self.check("not " * 60 + "yes", 60)
        self.check("plus -5 " * 59 + "num 7", None)
        self.check("plus -5 " * 60 + "num 7", 120)
        self.check("plus 1 " * 59 + "in 0", None)
        self.check("plus 1 " * 60 + "in 0", 120)

    def test_combs(self):
        # Each word with two parts makes two knots more, so these have an odd number of knots.
        for word in ("least", "most", "atmost", "both", "either"):
            self.check(f"{word} yes " * 29 + "yes", None)
            self.check(f"{word} yes " * 29 + "not yes", None)
            self.check(f"{word} yes " * 30 + "yes", 60)
            self.check(f"{word} " * 29 + "yes " * 29 + "yes", None)
            self.check(f"{word} " * 29 + "yes " * 29 + "not yes", None)
            self.check(f"{word} " * 30 + "yes " * 30 + "yes", 60)
            self.check(f"{word} in 1 " * 30 + "in 1", 90)
        self.check("if yes " * 19 + "in 0" + " num 1" * 19, None)
        self.check("if yes " * 19 + "plus 2 plus 2 in 0" + " num 1" * 19, None)
        self.check("if yes " * 19 + "plus 2 plus 2 plus 2 in 0" + " num 1" * 19, 38 + 8 + 36)
        self.check("if yes " * 20 + "in 0" + " num 1" * 20, 40 + 2 + 38)
        self.check("if yes no " * 20 + "in 0", 60)

    def test_full_trees(self):
        def tree(depth, leaf):
            return leaf if depth == 0 else f"both {tree(depth - 1, leaf)} {tree(depth - 1, leaf)}"
        half = tree(4, "no")
        self.check(f"if {half} {tree(3, 'no')} not {tree(2, 'no')} no", 1 + 31 + 15 + 8)
        self.check(f"both {half} {half}", 60)
        self.check(f"if {tree(4, 'no')} {tree(3, 'no')} both {tree(2, 'no')} no", None)
        self.check(f"both {half} not not {tree(3, 'no')}", None)

    def test_whatever_parts_are_open(self):
        for many in (61, 62, 70, 100):
            self.check("if " * many + "yes", 60)
            self.check("least " * many + "in 0", 60)
            self.check("not " * many + "yes", 60)
        # Too few knots are left for the open parts, but no 61st one has begun.
        self.check("if " * 59 + "if", 60)
        self.check("least " * 39 + "least", 40)
        self.check("least " * 40 + "x", 40)
        self.check("least " * 59 + "x", 59)
        self.check("least " * 60 + "x", 60)

    def test_amiss_ahead_of_the_61st(self):
        self.check("not " * 58 + "x not yes", 58)
        self.check("not " * 59 + "x", 59)
        self.check("not " * 59 + " yes", 59)
        self.check("plus 1 " * 59 + "plus 01 in 0", 119)
        self.check("plus 1 " * 59 + "plus", 119)
        self.check("plus 1 " * 59 + "plus 1", 120)
        self.check("plus 1 " * 30 + "plus +1 " * 40 + "in 0", 61)
        self.check("not " * 58 + "yes yes yes yes", 59)

    def test_amiss_at_the_61st_or_behind_it(self):
        self.check("not " * 60 + "x", 60)
        self.check("not " * 60, 60)
        self.check("not " * 59 + "not", 60)
        self.check("not " * 60 + "num 01", 60)
        self.check("not " * 60 + "num", 60)
        self.check("not " * 61 + "x", 60)
        self.check("plus 1 " * 60 + "in -1", 120)
        self.check("not " * 59 + "yes yes", 60)
        self.check("not " * 59 + "yes ", 60)

    def test_told_programs_are_shown_whole(self):
        wide = ("in", 0)
        for turn in range(8):
            wide = put(("least", ("in", 0), ("plus", 12, ("in", 0))), (wide,))
        self.assertEqual(len(knots(wide)), 766)
        self.assertEqual(show(wide), plain.text(wide))
        deep = ("in", 0)
        for turn in range(700):
            deep = put(("plus", -1, ("in", 0)), (deep,))
        self.assertEqual(show(deep), "plus -1 " * 700 + "in 0")
        self.check(show(deep), 120)

    def test_deep_programs(self):
        program = ("yes",)
        for turn in range(20000):
            program = ("not", program)
        self.assertEqual(show(program), "not " * 20000 + "yes")
        self.check(show(program), 60)


if __name__ == "__main__":
    unittest.main()
