"""The refusals: how they stand under one another, and their values."""

import unittest

from nestrows.errors import BadProgram, BadText, BadWorth, NestError, NoFunction

FOUR = (BadProgram, NoFunction, BadWorth, BadText)


class Errors(unittest.TestCase):
    def test_nest_error_is_straight_under_value_error(self):
        self.assertEqual(NestError.__bases__, (ValueError,))

    def test_the_four_are_straight_under_nest_error(self):
        for error in FOUR:
            with self.subTest(error=error.__name__):
                self.assertEqual(error.__bases__, (NestError,))
                self.assertTrue(issubclass(error, ValueError))

    def test_none_is_under_another(self):
        for error in FOUR:
            for other in FOUR:
                self.assertEqual(issubclass(error, other), error == other)

    def test_all_stand_in_one_file(self):
        for error in FOUR + (NestError,):
            self.assertEqual(error.__module__, "nestrows.errors")

    def test_bad_program_has_its_values(self):
        error = BadProgram(2, 17, "depth")
        self.assertEqual((error.function, error.place, error.word), (2, 17, "depth"))

    def test_bad_worth_has_its_value(self):
        self.assertEqual(BadWorth(3).number, 3)

    def test_bad_text_has_its_values(self):
        error = BadText(4, 9)
        self.assertEqual((error.row, error.place), (4, 9))

    def test_no_function_is_made_without_values(self):
        self.assertIsInstance(NoFunction(), NestError)

    def test_values_are_each_objects_own(self):
        first, second = BadProgram(0, -1, "many"), BadProgram(1, 0, "form")
        self.assertEqual((first.function, first.place, first.word), (0, -1, "many"))
        self.assertEqual((second.function, second.place, second.word), (1, 0, "form"))
        self.assertEqual([BadWorth(0).number, BadWorth(1).number], [0, 1])


if __name__ == "__main__":
    unittest.main()
