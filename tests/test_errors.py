"""The refusals [3]."""

import unittest

from fallingback import errors

KINDS = ["NoPast", "NoLetter", "NoHands", "NoHand", "Alike", "NoPoint", "NoPoints", "NoLine", "TooMany", "NoPart",
         "NoText", "NoRow", "NoNet"]


class ErrorsTest(unittest.TestCase):
    def test_fall_error_is_a_value_error(self):
        self.assertEqual(errors.FallError.__bases__, (ValueError,))

    def test_each_kind_stands_straight_under_fall_error(self):
        for kind in KINDS:
            with self.subTest(kind):
                self.assertEqual(getattr(errors, kind).__bases__, (errors.FallError,))

    def test_no_kind_is_another_one(self):
        self.assertEqual(len({getattr(errors, kind) for kind in KINDS}), 13)

    def test_each_is_made_with_one_text_and_tells_it(self):
        for kind in KINDS + ["FallError"]:
            for text in ("", "why", "two words\nand a line"):
                with self.subTest(kind, text=text):
                    self.assertEqual(str(getattr(errors, kind)(text)), text)

    def test_each_is_caught_as_a_value_error(self):
        for kind in KINDS + ["FallError"]:
            with self.subTest(kind):
                with self.assertRaises(ValueError):
                    raise getattr(errors, kind)("why")

    def test_each_is_defined_here_under_its_name(self):
        for kind in KINDS + ["FallError"]:
            with self.subTest(kind):
                self.assertEqual(getattr(errors, kind).__name__, kind)
                self.assertEqual(getattr(errors, kind).__module__, "fallingback.errors")


if __name__ == "__main__":
    unittest.main()
