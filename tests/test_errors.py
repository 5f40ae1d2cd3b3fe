"""Point 3 and the interface of sowring.errors."""

import unittest

from sowring import errors

NAMES = [
    "BadBoard", "BadPit", "BadPits", "BadCount", "NoSeeds", "BadPlan", "Unlike",
    "TooLong", "TooMany", "BadLine", "BadRow", "BadYard", "NoDeed", "BadText",
]


def made(name):
    kind = getattr(errors, name)
    if name == "BadPlan":
        return kind("some words", 7)
    return kind("some words")


class ErrorsTest(unittest.TestCase):
    def test_each_class_stands_straight_under_sow_error(self):
        for name in NAMES:
            with self.subTest(name):
                self.assertEqual(getattr(errors, name).__bases__, (errors.SowError,))

    def test_sow_error_stands_under_value_error(self):
        self.assertEqual(errors.SowError.__bases__, (ValueError,))

    def test_no_two_names_are_one_class(self):
        self.assertEqual(len({getattr(errors, name) for name in NAMES}), len(NAMES))

    def test_called_tells_the_name_of_the_class(self):
        for name in NAMES:
            with self.subTest(name):
                self.assertEqual(made(name).called(), name)
        self.assertEqual(errors.SowError("some words").called(), "SowError")

    def test_each_class_has_a_called_of_its_own(self):
        for name in NAMES:
            with self.subTest(name):
                self.assertIn("called", vars(getattr(errors, name)))

    def test_each_is_raised_and_taken_as_sow_error(self):
        for name in NAMES:
            with self.subTest(name):
                with self.assertRaises(errors.SowError) as caught:
                    raise made(name)
                self.assertEqual(caught.exception.called(), name)

    def test_the_text_is_kept(self):
        for name in NAMES:
            with self.subTest(name):
                self.assertEqual(str(made(name)), "some words")

    def test_bad_plan_keeps_the_place(self):
        for place in (0, 1, 7, 10 ** 60):
            self.assertEqual(errors.BadPlan("some words", place).at, place)


if __name__ == "__main__":
    unittest.main()
