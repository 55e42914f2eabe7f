"""The interface of leastmaker.errors."""

import unittest

from leastmaker import errors

# Each refusal with its base and its fields.
REFUSALS = [
    ("NoHead", errors.MakeError, ("word", "at")),
    ("NoProgram", errors.MakeError, ("word", "at")),
    ("NoText", errors.MakeError, ("at",)),
    ("NoStock", errors.MakeError, ("word", "at")),
    ("NoAnswer", errors.MakeError, ("answer",)),
    ("NoInputs", errors.MakeError, ("at",)),
    ("Clash", errors.MakeError, ("at", "number")),
    ("NoRow", errors.MakeError, ()),
    ("NoQuestion", LookupError, ()),
    ("NoDoer", LookupError, ("inputs",)),
    ("NotKept", IndexError, ("number",)),
    ("NoName", KeyError, ("name",)),
]
THINGS = [
    0, 1, -1, 17, -1000000, 10 ** 30, -10 ** 30, 10 ** 6000, -10 ** 6000, True, False, None,
    "", "form", "kind", "a b", "\n", (), (1,), (0, True, -5), ("in", 0), ((), ("x", (None,))),
]


def deep_tuple():
    thing = ()
    for turn in range(5000):
        thing = (thing,)
    return thing


class Fields(unittest.TestCase):
    def check_fields(self, error, fields, things):
        for field, thing in zip(fields, things):
            self.assertIs(getattr(error, field), thing)

    def test_fields_are_what_it_was_made_of(self):
        for name, base, fields in REFUSALS:
            made = getattr(errors, name)
            for at, thing in enumerate(THINGS):
                other = THINGS[(at + 5) % len(THINGS)]
                things = (thing, other)[:len(fields)]
                with self.subTest(name=name, at=at):
                    self.check_fields(made(*things), fields, things)
                    self.check_fields(made(**dict(zip(fields, things))), fields, things)
                    turned = dict(reversed(list(zip(fields, things))))
                    self.check_fields(made(**turned), fields, things)

    def test_great_things_are_kept_and_nothing_is_written_of_them(self):
        deep = deep_tuple()
        for name, base, fields in REFUSALS:
            things = (deep, deep)[:len(fields)]
            self.check_fields(getattr(errors, name)(*things), fields, things)

    def test_two_of_a_class_have_fields_of_their_own(self):
        one, other = errors.NoHead("form", 0), errors.NoHead("kind", 2)
        self.assertEqual((one.word, one.at, other.word, other.at), ("form", 0, "kind", 2))


class Bases(unittest.TestCase):
    def test_make_error_is_right_under_value_error(self):
        self.assertEqual(errors.MakeError.__bases__, (ValueError,))

    def test_each_is_right_under_its_base(self):
        for name, base, fields in REFUSALS:
            with self.subTest(name=name):
                self.assertEqual(getattr(errors, name).__bases__, (base,))
                self.assertEqual(getattr(errors, name).__name__, name)

    def test_each_is_of_its_own_class_and_of_none_of_the_others(self):
        for name, base, fields in REFUSALS:
            error = getattr(errors, name)(*(0, 1)[:len(fields)])
            self.assertIsInstance(error, base)
            self.assertEqual(isinstance(error, errors.MakeError), base is errors.MakeError)
            self.assertEqual(isinstance(error, ValueError), base is errors.MakeError)
            for other, other_base, other_fields in REFUSALS:
                with self.subTest(name=name, other=other):
                    self.assertEqual(isinstance(error, getattr(errors, other)), name == other)

    def test_each_is_raised_and_caught(self):
        for name, base, fields in REFUSALS:
            with self.subTest(name=name), self.assertRaises(base) as caught:
                raise getattr(errors, name)(*(3, 4)[:len(fields)])
            self.assertEqual(vars(caught.exception), dict(zip(fields, (3, 4))))


if __name__ == "__main__":
    unittest.main()
