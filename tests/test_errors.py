"""The refusals: each class straight under WireError, none under another one."""

import unittest

from twinwires import errors

NAMES = ["NoWires", "NoRow", "NoProduct", "NoDeed", "NoWire", "NoLook",
         "NoWhole", "NoCode", "NoMend", "NoText", "NoLine"]


class Errors(unittest.TestCase):
    def test_wire_error_stands_straight_under_value_error(self):
        self.assertEqual(errors.WireError.__bases__, (ValueError,))

    def test_each_refusal_stands_straight_under_wire_error(self):
        for name in NAMES:
            with self.subTest(name):
                self.assertEqual(getattr(errors, name).__bases__, (errors.WireError,))

    def test_no_refusal_is_another_one(self):
        for name in NAMES:
            for other in NAMES:
                with self.subTest(f"{name}, {other}"):
                    under = issubclass(getattr(errors, name), getattr(errors, other))
                    self.assertEqual(under, name == other)

    def test_a_refusal_is_raised_and_taken_by_name(self):
        for name in NAMES:
            with self.subTest(name):
                kind = getattr(errors, name)
                self.assertEqual(kind.__name__, name)
                with self.assertRaises(errors.WireError) as taken:
                    raise kind("some words")
                self.assertIs(type(taken.exception), kind)
                self.assertEqual(str(taken.exception), "some words")


if __name__ == "__main__":
    unittest.main()
