"""Point 32: the desk, and of points 2 and 3 what they say of leastmaker.desk."""

import unittest

from leastmaker.desk import Desk
from leastmaker.errors import Clash, NoName, NoProgram, NoRow, NoText, NotKept
from leastmaker.texts import read
from leastmaker.wishes import meets
from tests import plain


class Checks(unittest.TestCase):
    def say(self, desk, *pairs):
        """Each row is answered so."""
        for row, answer in pairs:
            told = desk.say(row)
            self.assertIs(type(told), str)
            self.assertEqual(told, answer, row)

    def check_refused(self, desk, row, error, *fields):
        """The row is refused with these fields, by just this error."""
        with self.subTest(row=row), self.assertRaises(error) as caught:
            desk.say(row)
        self.assertIs(type(caught.exception), error)
        self.assertEqual(tuple(vars(caught.exception).values()), fields)

    def check_no_rows(self, desk, rows):
        for row in rows:
            self.check_refused(desk, row, NoRow)


class Rows(Checks):
    def test_ahead_of_the_first_head(self):
        desk = Desk()
        self.say(desk, ("keep a in 0", "num"), ("at a 5", "5"), ("keep b atmost in 0 num 3", "truth"), ("at b 5", "no"),
                 ("wish both atmost in 0 in 1 atmost num 0 in 1", "0"), ("made c", "made 3"),
                 ("show c", "most in 0 num 0"), ("example 3 : 3", "1"), ("settled", "two"))
        self.check_refused(desk, "keep a in 1", NoProgram, "input", 0)
        self.check_no_rows(desk, ["at a", "at a 1 2", "at a yes", "example : 3", "example 3 4 : 3", "example yes : 3"])

    def test_heads(self):
        desk = Desk()
        for row in ("head : num", "head : truth", "head num : num", "head truth : truth", "head num truth : num",
                    "head num num num : truth", "head truth num truth : num"):
            self.say(desk, (row, "open"))
        self.say(desk, ("keep a in 1", "num"), ("keep a in 2", "truth"))

    def test_a_new_head(self):
        desk = Desk()
        self.say(desk, ("keep a in 0", "num"), ("wish yes", "0"), ("example 1 : 2", "1"), ("back 0", "gone"),
                 ("head num truth : truth", "open"))
        self.check_refused(desk, "show a", NoName, "a")
        self.check_refused(desk, "back 1", NotKept, 1)
        self.say(desk, ("example 1 yes : no", "0"), ("wish in 2", "1"), ("keep b in 1", "truth"))
        # The same head again is a new one, too.
        self.say(desk, ("head num truth : truth", "open"))
        self.check_refused(desk, "show b", NoName, "b")
        self.check_refused(desk, "back 0", NotKept, 0)
        self.say(desk, ("example 1 yes : yes", "0"))

    def test_keep_and_show(self):
        desk = Desk()
        desk.say("head num truth num : num")
        for program, kind, text in plain.SAMPLES:
            self.say(desk, (f"keep p {text}", kind), ("show p", text))
        self.say(desk, ("keep abcdef in 0", "num"), ("keep z yes", "truth"), ("show abcdef", "in 0"), ("show z", "yes"),
                 ("keep z in 2", "num"), ("show z", "in 2"), ("show abcdef", "in 0"))
        # A name may be a word of the rows, or of the texts.
        self.say(desk, ("keep keep in 0", "num"), ("show keep", "in 0"), ("keep in num 3", "num"), ("show in", "num 3"),
                 ("keep yes no", "truth"), ("show yes", "no"))

    def test_at(self):
        desk = Desk()
        desk.say("head num truth : num")
        self.say(desk, ("keep a if in 1 plus 1 in 0 num -7", "num"), ("at a 4 yes", "5"), ("at a 4 no", "-7"),
                 ("at a -999999 yes", "-999998"), ("at a 999999 yes", "1000000"), ("at a 0 yes", "1"),
                 ("at a -1 yes", "0"), ("keep b not in 1", "truth"), ("at b 3 yes", "no"), ("at b 3 no", "yes"))
        desk.say("head : num")
        self.say(desk, ("keep a plus 2 num 3", "num"), ("at a", "5"), ("keep b no", "truth"), ("at b", "no"))

    def test_weigh(self):
        desk = Desk()
        self.say(desk, ("keep a in 0", "num"), ("weigh a", "1"), ("keep a least in 0 plus -1 num 1", "num"),
                 ("weigh a", "4"), ("keep a num 2", "num"), ("weigh a", "none"), ("keep a yes", "truth"),
                 ("weigh a", "none"), ("keep a if atmost in 0 num 0 in 0 num 1", "num"), ("weigh a", "6"))

    def test_same(self):
        desk = Desk()
        desk.say("head num num : num")
        self.say(desk, ("keep a most in 0 in 1", "num"), ("keep b if atmost in 0 in 1 in 1 in 0", "num"),
                 ("same a b", "same"), ("same b a", "same"), ("same a a", "same"), ("keep c in 0", "num"))
        word, *inputs = desk.say("same a c").split(" ")
        self.assertEqual(word, "unlike")
        self.assertEqual(len(inputs), 2)
        self.assertLess(int(inputs[0]), int(inputs[1]))
        self.assertEqual(desk.say("same a c"), desk.say("same a c"))
        self.say(desk, ("keep d yes", "truth"), ("keep e atmost in 0 in 0", "truth"), ("same d e", "same"))

    def test_unlike_by_truths_and_by_no_inputs(self):
        desk = Desk()
        desk.say("head truth num truth : num")
        self.say(desk, ("keep a both in 0 in 2", "truth"), ("keep b in 0", "truth"))
        word, *inputs = desk.say("same a b").split(" ")
        self.assertEqual((word, len(inputs), inputs[0], inputs[2]), ("unlike", 3, "yes", "no"))
        self.assertEqual(str(int(inputs[1])), inputs[1])
        self.assertNotEqual(desk.say(f"at a {' '.join(inputs)}"), desk.say(f"at b {' '.join(inputs)}"))
        self.say(desk, ("head : num", "open"), ("keep a num 1", "num"), ("keep b num 2", "num"), ("same a b", "unlike"))

    def test_wishes_examples_and_back(self):
        desk = Desk()
        desk.say("head num num : num")
        self.say(desk, ("wish atmost in 0 in 2", "0"), ("example 3 4 : 4", "1"), ("wish atmost in 1 in 2", "2"),
                 ("example -3 0 : 0", "3"), ("example 3 4 : 4", "4"), ("back 1", "gone"), ("back 4", "gone"),
                 ("back 3", "gone"), ("example 3 4 : 5", "5"), ("made p", "made 4"), ("back 5", "gone"),
                 ("made p", "made 3"), ("show p", "most in 0 in 1"))
        desk.say("head truth num : truth")
        self.say(desk, ("example yes 4 : no", "0"), ("example no -999999 : yes", "1"), ("wish in 2", "2"))
        desk.say("head : num")
        self.say(desk, ("example : 3", "0"), ("example : 3", "1"), ("made a", "made 3"),
                 ("show a", "plus 1 plus 1 num 1"))

    def test_made(self):
        desk = Desk()
        desk.say("head num num : num")
        self.say(desk, ("made p", "made 1"), ("show p", "in 0"), ("keep q num 5", "num"),
                 ("wish atmost in 1 in 2", "0"), ("made q", "made 1"), ("show q", "in 1"), ("weigh q", "1"),
                 ("wish no", "1"), ("made q", "none"), ("show q", "in 1"), ("made new", "none"))
        self.check_refused(desk, "show new", NoName, "new")
        self.say(desk, ("back 1", "gone"), ("made new", "made 1"), ("show new", "in 1"))

    def test_made_to_the_default_weight(self):
        desk = Desk()
        self.say(desk, ("wish both atmost in 1 plus 4 in 0 atmost plus 4 in 0 in 1", "0"), ("made a", "made 5"),
                 ("show a", "plus 1 plus 1 plus 1 plus 1 in 0"), ("back 0", "gone"),
                 ("wish both atmost in 1 plus 5 in 0 atmost plus 5 in 0 in 1", "1"), ("made a", "none"))

    def test_settled(self):
        desk = Desk()
        self.say(desk, ("settled", "two"), ("wish atmost in 0 in 1", "0"), ("settled", "two"),
                 ("wish atmost in 1 in 0", "1"), ("settled", "one"), ("back 0", "gone"), ("settled", "two"),
                 ("wish no", "2"), ("settled", "one"))
        desk.say("head truth : truth")
        self.say(desk, ("example yes : no", "0"), ("settled", "two"), ("example no : no", "1"), ("settled", "one"))

    def test_least(self):
        desk = Desk()
        self.say(desk, ("keep a plus 1 plus -1 in 0", "num"), ("least a", "least 1"), ("show a", "in 0"),
                 ("keep a num 3", "num"), ("least a", "least 3"), ("show a", "plus 1 plus 1 num 1"),
                 ("keep a num 9", "num"), ("least a", "none"), ("show a", "num 9"), ("keep a not no", "truth"),
                 ("least a", "least 3"), ("show a", "atmost in 0 in 0"), ("keep a num 6", "num"), ("least a", "none"))

    def test_least_ones_of_what_was_made(self):
        desk = Desk()
        desk.say("head num num : num")
        self.say(desk, ("wish atmost in 0 in 2", "0"), ("wish atmost in 1 in 2", "1"), ("made a", "made 3"),
                 ("least a", "least 3"), ("keep b if atmost in 1 in 0 in 0 in 1", "num"), ("least b", "least 3"),
                 ("same a b", "same"), ("show b", "most in 0 in 1"))

    def test_by_name(self):
        self.assertEqual(Desk().say(row="head : num"), "open")


class Refused(Checks):
    def desk(self):
        desk = Desk()
        desk.say("head num truth : num")
        desk.say("keep a in 0")
        desk.say("keep b in 1")
        desk.say("wish atmost in 0 in 2")
        desk.say("example 1 yes : 3")
        return desk

    def stands(self, desk):
        """What a desk tells of itself, as far as the rows ask for it."""
        return [desk.say(row) for row in ("show a", "show b", "settled", "made m", "show m", "at a 7 yes")]

    def test_other_words(self):
        self.check_no_rows(self.desk(), [
            "", " ", "  ", "x", "Head : num", "HEAD : num", "open", "heads : num", "shows a", "num", "in 0",
            "keepa in 0", "head:num", "none", "Show a", "\n", "0", "settle", "examples 1 yes : 2", "?", "show\ta"])

    def test_other_counts_of_words(self):
        self.check_no_rows(self.desk(), [
            "head", "head :", "head num", "head num num", "head : num num", "head num : num : num", "head : : num",
            "head num truth num num : num", "head num num num num num : num", "keep", "keep a", "show", "show a b",
            "at", "at a", "at a 1", "at a 1 yes 2", "at a 1 yes yes", "weigh", "weigh a b", "same", "same a",
            "same a b a", "wish", "example", "example 1 yes", "example 1 yes :", "example 1 yes 3",
            "example 1 yes : 3 4", "example 1 : 3", "example : 3", "example 1 yes no : 3", "example 1 yes : : 3",
            "example 1 : yes 3", "example : 1 yes 3", "back", "back 0 1", "made", "made a b", "settled a", "settled 0",
            "least", "least a b"])

    def test_words_without_signs(self):
        self.check_no_rows(self.desk(), [
            " show a", "show a ", "show  a", "  show a", "show a  ", " settled", "settled ", "head  : num",
            "head :  num", "head : num ", " head : num", "head num  truth : num", "keep  a in 0", "keep  in 0",
            " keep a in 0", "at  a 1 yes", "at a  1 yes", "at a 1  yes", "at a 1 yes ", "same a  b", "same a b ",
            "example  1 yes : 3", "example 1 yes  : 3", "example 1 yes :  3", "example 1 yes : 3 ", "back  1",
            "back 1 ", "back ", "made ", "made  a", "made a ", "least ", "least a ", "weigh a ", "show ",
            "keep ", " wish yes"])

    def test_line_feeds(self):
        self.check_no_rows(self.desk(), [
            "show a\n", "\nshow a", "show\na", "settled\n", "keep c in 0\n", "keep c in\n0", "keep c \n", "wish yes\n",
            "wish \n", "wish \nyes", "keep\nc in 0", "at a 1 yes\n", "head : num\n", "back 1\n", "show a\nshow b"])

    def test_kinds(self):
        self.check_no_rows(self.desk(), [
            "head nums : num", "head : Num", "head num : ", "head truth : yes", "head : 1", "head 0 : num", "head : in",
            "head num truths num : num", "head num, truth : num", "head : none", "head a : num"])

    def test_names(self):
        desk = self.desk()
        for name in ("", "abcdefg", "A", "aB", "a1", "1", "a_b", "a-b", "_", ":", "a.", "?", "~", "\u00e9", "a\t",
                     "-1"):
            self.check_no_rows(desk, [
                f"keep {name} in 0", f"show {name}", f"at {name} 1 yes", f"weigh {name}", f"same {name} a",
                f"same a {name}", f"made {name}", f"least {name}"])

    def test_numbers_and_inputs(self):
        desk = self.desk()
        for number in ("", "-", "+1", "-0", "00", "01", "-01", "007", "1234567", "-1234567", "1000000", "1.0", "1e3",
                       "x", "yes", "no", "in", "1_0", "--1", "1-", "\u0661", "0x1", "num"):
            self.check_no_rows(desk, [f"at a {number} yes", f"example {number} yes : 3", f"example 1 yes : {number}",
                                      f"back {number}"])
        for truth in ("", "1", "0", "True", "False", "Yes", "NO", "y", "true", "num", "-1"):
            self.check_no_rows(desk, [f"at a 1 {truth}", f"example 1 {truth} : 3"])
        self.check_no_rows(desk, ["back -1", "back -5", "back -999999"])
        desk.say("head : truth")
        self.check_no_rows(desk, ["example : 1", "example : 0", "example : True", "example :  ", "example 1 : yes"])
        self.say(desk, ("example : yes", "0"))

    def test_names_that_are_not_kept(self):
        desk = self.desk()
        for row, name in [("show c", "c"), ("at c 1 yes", "c"), ("weigh abcdef", "abcdef"), ("least c", "c"),
                          ("same c d", "c"), ("same a d", "d"), ("same c a", "c"), ("same c c", "c")]:
            self.check_refused(desk, row, NoName, name)

    def test_rows_ahead_of_names(self):
        self.check_no_rows(self.desk(), ["at c 1", "at c 1 1", "at c yes yes", "same c D", "same c", "show c d"])

    def test_texts(self):
        desk = self.desk()
        for text, at in [("", 0), (" ", 0), ("  in 0", 0), (" in 0", 0), ("in  0", 1), ("in 0 ", 2), ("in 0  ", 2),
                         ("in", 1), ("in x", 1), ("in -1", 1), ("least in 0", 3), ("in 0 in 0", 2), ("plus 01 in 0", 1),
                         ("show a", 0), ("not", 1), ("num 1234567", 1), ("yes ", 1), ("In 0", 0), (":", 0)]:
            self.check_refused(desk, f"keep a {text}", NoText, at)
            self.check_refused(desk, f"keep new {text}", NoText, at)
            self.check_refused(desk, f"wish {text}", NoText, at)
        self.check_refused(desk, "show new", NoName, "new")
        self.say(desk, ("show a", "in 0"))
        deep = " ".join(["not"] * 59 + ["yes"])
        self.say(desk, (f"keep c {deep}", "truth"), ("show c", deep))
        self.check_refused(desk, f"keep c not {deep}", NoText, 60)

    def test_programs_by_the_head(self):
        desk = self.desk()
        for text, word, at in [("in 2", "input", 0), ("least in 0 in 2", "input", 2), ("least in 0 in 1", "kind", 0),
                               ("not in 0", "kind", 0), ("if in 1 in 0 yes", "kind", 0),
                               ("plus 1 plus 1 yes", "kind", 1), ("both in 0 in 2", "input", 2)]:
            self.check_refused(desk, f"keep a {text}", NoProgram, word, at)
        for text, word, at in [("in 3", "input", 0), ("atmost in 0 in 1", "kind", 0), ("in 2", "kind", 0),
                               ("num 1", "kind", 0), ("least in 0 in 2", "kind", 0), ("not not in 2", "kind", 1),
                               ("if in 1 in 0 in 2", "kind", 0), ("in 0", "kind", 0)]:
            self.check_refused(desk, f"wish {text}", NoProgram, word, at)
        self.say(desk, ("show a", "in 0"), ("wish in 1", "2"))

    def test_same_of_unlike_kinds(self):
        desk = self.desk()
        self.check_no_rows(desk, ["same a b", "same b a"])
        # A name that isn't kept comes ahead of it.
        self.check_refused(desk, "same a c", NoName, "c")

    def test_clashes(self):
        desk = self.desk()
        self.check_refused(desk, "example 1 yes : 4", Clash, 0, 1)
        self.say(desk, ("example 1 no : 4", "2"), ("example 1 yes : 3", "3"), ("back 1", "gone"))
        self.check_refused(desk, "example 1 yes : 4", Clash, 0, 3)
        self.say(desk, ("back 3", "gone"), ("example 1 yes : 4", "4"))

    def test_numbers_that_are_not_kept(self):
        desk = self.desk()
        for number in (2, 7, 999999):
            self.check_refused(desk, f"back {number}", NotKept, number)
        self.say(desk, ("back 0", "gone"))
        self.check_refused(desk, "back 0", NotKept, 0)
        self.say(desk, ("wish yes", "2"))

    def test_what_is_refused_changes_nothing(self):
        desk, other = self.desk(), self.desk()
        for row in ("head num num num num : num", "head num : ", "keep a in 2", "keep a in", "keep b plus 1 yes",
                    "show c", "wish in 0", "wish in", "example 1 yes : 9", "example 1 1 : 9", "back 7", "back -1",
                    "least c", "same a b", "made A", "made a b", "settled now", "\n", ""):
            with self.assertRaises((NoRow, NoName, NoText, NoProgram, Clash, NotKept)):
                desk.say(row)
            self.assertEqual(self.stands(desk), self.stands(other), row)
        self.say(desk, ("wish yes", "2"), ("example 5 no : 5", "3"))

    def test_two_desks(self):
        one, other = Desk(), Desk()
        self.say(one, ("keep a in 0", "num"), ("wish atmost in 0 in 1", "0"))
        self.check_refused(other, "show a", NoName, "a")
        self.check_refused(other, "back 0", NotKept, 0)
        self.say(other, ("head truth : truth", "open"), ("keep a in 0", "truth"), ("example yes : no", "0"))
        self.say(one, ("at a 3", "3"), ("wish yes", "1"), ("made a", "made 1"))
        self.say(other, ("at a yes", "yes"), ("settled", "two"))

    def test_what_is_made_meets_what_was_told(self):
        desk = Desk()
        desk.say("head num num : num")
        wish = "both both atmost in 0 in 2 atmost in 1 in 2 either atmost in 2 in 0 atmost in 2 in 1"
        self.say(desk, (f"wish {wish}", "0"), ("settled", "one"), ("made p", "made 3"))
        self.assertEqual(meets((("num", "num"), "num"), read(wish), read(desk.say("show p")))[0], "sure")


if __name__ == "__main__":
    unittest.main()
