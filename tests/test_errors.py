"""The errors [0.16]."""

import unittest

from seldomflip import errors

MESSAGES = ("InvalidLetters", "InvalidLog", "InvalidMachine", "InvalidJudge", "InvalidHistory", "InvalidTower",
            "InvalidChain", "InvalidLadder", "InvalidRule", "InvalidOperation", "InvalidEdit", "ParseError")
VALUES = (("InvalidNumber", "value", IndexError), ("UnknownName", "name", KeyError), ("TooLate", "time", LookupError),
          ("TooMany", "limit", OverflowError), ("Unlimited", "swing", ArithmeticError),
          ("NothingToUndo", "many", RuntimeError))


class ErrorsTest(unittest.TestCase):

    def test_flip_error(self):
        self.assertEqual(errors.FlipError.__bases__, (ValueError,))
        self.assertEqual(str(errors.FlipError("some words")), "some words")

    def test_errors_with_a_message(self):
        for name in MESSAGES:
            error = getattr(errors, name)
            self.assertEqual(error.__bases__, (errors.FlipError,))
            self.assertEqual(error.__name__, name)
            self.assertEqual(str(error("some words")), "some words")

    def test_errors_with_a_value(self):
        for name, attribute, base in VALUES:
            error = getattr(errors, name)
            self.assertEqual(error.__bases__, (base,))
            self.assertEqual(error.__name__, name)
            self.assertFalse(issubclass(error, errors.FlipError))
            for value in (7, -1, None, True, "abc", (), [1], {"a": 1}, 10 ** 59):
                self.assertIs(getattr(error(value), attribute), value)

    def test_each_value_is_kept_by_its_own_name(self):
        for name, attribute, _ in VALUES:
            made = getattr(errors, name)(3)
            self.assertEqual(made.__dict__, {attribute: 3})

    def test_one_value_is_needed(self):
        for name, _, _ in VALUES:
            with self.assertRaises(TypeError):
                getattr(errors, name)()
            with self.assertRaises(TypeError):
                getattr(errors, name)(1, 2)

    def test_no_two_are_derived_from_one_another(self):
        names = MESSAGES + tuple(name for name, _, _ in VALUES)
        for one in names:
            for other in names:
                derived = issubclass(getattr(errors, one), getattr(errors, other))
                self.assertEqual(derived, one == other)

    def test_raised_and_caught_as_their_bases(self):
        for name, _, base in VALUES:
            with self.assertRaises(base):
                raise getattr(errors, name)(1)
        with self.assertRaises(ValueError):
            raise errors.InvalidEdit("no edit")


if __name__ == "__main__":
    unittest.main()
