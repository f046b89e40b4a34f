"""Integers, bounds and numbers in texts: promises [2] and [3]."""

import unittest

from copyvotes.errors import BadNumber
from copyvotes.words import check_number, is_integer, read_number
from tests.helpers import NumberTest

NO_INTEGERS = [True, False, None, "", "1", "a", b"1", 1.0, (), (1,), [1], {}, set(), object()]


class IsIntegerTest(unittest.TestCase):
    def test_integers(self):
        for value in [0, 1, -1, 7, 9999, 10 ** 5000, -10 ** 5000]:
            self.assertIs(is_integer(value), True)

    def test_other_values(self):
        for value in NO_INTEGERS:
            with self.subTest(repr(value)):
                self.assertIs(is_integer(value), False)


class CheckNumberTest(NumberTest):
    def test_values_within_and_at_the_bounds_are_returned(self):
        for low, high in [(2, 5), (None, 5), (2, None), (None, None)]:
            for value in [2, 3, 4, 5]:
                with self.subTest(value, low=low, high=high):
                    self.assertEqual(check_number("size", value, low, high), value)

    def test_the_returned_value_is_the_very_one(self):
        value = 10 ** 30
        self.assertIs(check_number("size", value, 0, None), value)

    def test_values_below_the_low_bound(self):
        for high in [5, None]:
            for value in [1, 0, -2, -10 ** 5000]:
                self.assert_bad_number("size", value, check_number, "size", value, 2, high)

    def test_values_above_the_high_bound(self):
        for low in [2, None]:
            for value in [6, 7, 10 ** 5000]:
                self.assert_bad_number("size", value, check_number, "size", value, low, 5)

    def test_a_bound_of_zero_is_a_bound(self):
        self.assertEqual(check_number("size", 0, 0, 0), 0)
        self.assert_bad_number("size", -1, check_number, "size", -1, 0, None)
        self.assert_bad_number("size", 1, check_number, "size", 1, None, 0)

    def test_no_bound_takes_any_integer(self):
        for value in [10 ** 5000, 1, 0, -1, -10 ** 5000]:
            self.assertEqual(check_number("size", value, None, None), value)
        self.assertEqual(check_number("size", -10 ** 5000, None, 5), -10 ** 5000)
        self.assertEqual(check_number("size", 10 ** 5000, 2, None), 10 ** 5000)

    def test_values_that_are_no_integers(self):
        for low, high in [(0, 5), (None, 5), (0, None), (None, None)]:
            for value in NO_INTEGERS:
                with self.subTest(repr(value), low=low, high=high):
                    with self.assertRaises(BadNumber) as caught:
                        check_number("count", value, low, high)
                    self.assertEqual(caught.exception.what, "count")
                    self.assertIs(caught.exception.value, value)


class ReadNumberTest(NumberTest):
    def test_one_to_four_digits(self):
        for number in [0, 1, 5, 9, 10, 42, 99, 100, 305, 999, 1000, 6070, 9999]:
            read = read_number(str(number))
            self.assertEqual(read, number)
            self.assertIs(type(read), int)

    def test_a_leading_zero(self):
        for text in ["00", "01", "007", "0000", "0123", "09"]:
            self.assert_bad_number("number", text, read_number, text)

    def test_the_empty_text_and_too_many_digits(self):
        for text in ["", "10000", "99999", "00000", "123456", "1" * 4000]:
            self.assert_bad_number("number", text, read_number, text)

    def test_another_character_at_the_front_within_and_at_the_end(self):
        for other in ["+", "-", "a", "e", "x", " ", "\n", "_", ".", "/", ",", "'", "~"]:
            for text in [other, other + "1", other + "12", "1" + other + "2", "1" + other, "12" + other]:
                with self.subTest(text):
                    self.assert_bad_number("number", text, read_number, text)

    def test_the_digits_of_other_scripts(self):
        for text in ["\u0661", "\u00b2", "1\u0662", "\uff11"]:
            self.assert_bad_number("number", text, read_number, text)
