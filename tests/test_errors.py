"""The errors [0.17]: whence they come, and what they keep."""

import unittest

from crestjoin import errors
from tests.support import LONGEST, SOME_TABLE, shown

MESSAGES = ("InvalidLot", "InvalidTable", "InvalidQuestion", "InvalidRank", "InvalidTold", "InvalidFlow",
            "InvalidClaim", "InvalidOperation")
KEEPING = (("InvalidNumber", "given"), ("UnknownName", "wanted"), ("TooMany", "most"), ("Refused", "reason"),
           ("ParseError", "at"))


class ErrorsTest(unittest.TestCase):
    def test_crest_error_is_derived_from_value_error(self):
        self.assertEqual(errors.CrestError.__bases__, (ValueError,))

    def test_all_others_are_directly_derived_from_it(self):
        for name in MESSAGES + tuple(name for name, _ in KEEPING):
            self.assertEqual(getattr(errors, name).__bases__, (errors.CrestError,), name)

    def test_no_error_is_caught_as_another_one(self):
        names = MESSAGES + tuple(name for name, _ in KEEPING)
        for name in names:
            for other in names:
                if other != name:
                    self.assertFalse(issubclass(getattr(errors, name), getattr(errors, other)))

    def test_all_are_defined_in_their_module(self):
        for name in ("CrestError",) + MESSAGES + tuple(name for name, _ in KEEPING):
            self.assertEqual(getattr(errors, name).__module__, "crestjoin.errors")

    def test_some_take_a_message(self):
        for name in MESSAGES + ("CrestError",):
            self.assertEqual(str(getattr(errors, name)("the words")), "the words")

    def test_the_others_keep_the_one_value_they_take(self):
        for name, attribute in KEEPING:
            for value in (0, True, None, -LONGEST, "a\nb", ("undo",), [1], {1: 2}, SOME_TABLE):
                error = getattr(errors, name)(value)
                self.assertIs(getattr(error, attribute), value)
                self.assertEqual(shown(error.args), shown((value,)))

    def test_the_others_take_just_one_value(self):
        for name, _ in KEEPING:
            with self.assertRaises(TypeError):
                getattr(errors, name)()
            with self.assertRaises(TypeError):
                getattr(errors, name)(1, 2)

    def test_each_can_be_caught_as_a_crest_error(self):
        for name in MESSAGES + tuple(name for name, _ in KEEPING):
            with self.assertRaises(errors.CrestError):
                raise getattr(errors, name)("x")


if __name__ == "__main__":
    unittest.main()
