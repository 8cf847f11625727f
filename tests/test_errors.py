"""The refusals of allonge.errors (points 16, 17 and 18 say what they are for)."""

import unittest

from allonge import errors

NAMES = (
    "BadName Taken BadCoins Full NoHouse NoCoins Failed Standing BadCount BadDay NoBill Void "
    "Closed Accepted Same NotBlank NotYet NotPresented Protested TooLate NotBound CantPay "
    "NotProtested IsBound Twice NoMoment BadLine"
).split()


class ErrorsTest(unittest.TestCase):
    def test_hall_error_is_straight_under_value_error(self):
        self.assertEqual(errors.HallError.__bases__, (ValueError,))
        self.assertEqual(errors.HallError.__name__, "HallError")
        self.assertEqual(errors.HallError.__module__, "allonge.errors")

    def test_there_are_twenty_seven_kinds(self):
        self.assertEqual(len({getattr(errors, name) for name in NAMES}), 27)

    def test_each_is_straight_under_hall_error_and_no_other(self):
        for name in NAMES:
            with self.subTest(name=name):
                self.assertEqual(getattr(errors, name).__bases__, (errors.HallError,))

    def test_each_is_defined_there_under_its_own_name(self):
        for name in NAMES:
            with self.subTest(name=name):
                self.assertEqual(getattr(errors, name).__name__, name)
                self.assertEqual(getattr(errors, name).__module__, "allonge.errors")

    def test_each_has_the_name_of_its_class_as_its_word(self):
        for name in NAMES:
            with self.subTest(name=name):
                self.assertEqual(getattr(errors, name)(1).word, name)

    def test_what_it_is_made_with_is_its_message(self):
        self.assertEqual(str(errors.NoHouse("zora")), "zora")

    def test_bad_line_has_its_line_as_a_field(self):
        for at in (1, 2, 400):
            with self.assertRaises(errors.HallError) as caught:
                raise errors.BadLine(at)
            self.assertEqual(caught.exception.at, at)

    def test_two_bad_lines_know_nothing_of_one_another(self):
        first, second = errors.BadLine(1), errors.BadLine(2)
        self.assertEqual((first.at, second.at), (1, 2))


if __name__ == "__main__":
    unittest.main()
