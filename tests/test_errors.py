"""[3] and the interface of stage 1: how refusals stand."""

import unittest

import farpanes
import farpanes.errors as errors

NAMES = ["BadFace", "BadDeed", "BadTalk", "BadChange", "BadPacket", "BadLayout", "BadName", "BadFilm", "Nothing"]


class TestErrors(unittest.TestCase):
    def test_screen_error_is_a_value_error(self):
        self.assertEqual(errors.ScreenError.__bases__, (ValueError,))

    def test_each_stands_right_under_screen_error(self):
        for name in NAMES:
            self.assertEqual(getattr(errors, name).__bases__, (errors.ScreenError,), name)

    def test_there_are_no_others(self):
        found = [name for name, value in vars(errors).items() if isinstance(value, type)]
        self.assertEqual(sorted(found), sorted(NAMES + ["ScreenError"]))

    def test_each_is_caught_as_screen_error_and_by_no_other(self):
        for name in NAMES:
            kind = getattr(errors, name)
            with self.assertRaises(errors.ScreenError):
                raise kind("why")
            for other in NAMES:
                self.assertEqual(issubclass(kind, getattr(errors, other)), name == other)

    def test_the_package_binds_nothing_but_its_modules(self):
        bound = [name for name in vars(farpanes) if not name.startswith("__")]
        for name in bound:
            self.assertIs(type(getattr(farpanes, name)), type(farpanes), name)


if __name__ == "__main__":
    unittest.main()
