"""Fractions: promise [4]."""

import operator
import unittest
from fractions import Fraction

from copyvotes.errors import BadNumber
from copyvotes.ratio import Ratio, read_ratio
from tests.helpers import NumberTest

NO_INTEGERS = [True, False, None, "1", "a", 1.0, (1,), [1], object()]
SMALL = [(over, under) for over in range(-5, 6) for under in [-4, -3, -2, -1, 1, 2, 3, 4]]
COMPARISONS = [operator.lt, operator.le, operator.gt, operator.ge]
ARITHMETIC = [operator.add, operator.sub, operator.mul]


def parts(ratio):
    return (ratio.over, ratio.under)


def parts_of_fraction(fraction):
    return (fraction.numerator, fraction.denominator)


class MakingTest(NumberTest):
    def test_lowest_terms_and_a_positive_under(self):
        self.assertEqual(parts(Ratio(6, 8)), (3, 4))
        self.assertEqual(parts(Ratio(-6, 8)), (-3, 4))
        self.assertEqual(parts(Ratio(6, -8)), (-3, 4))
        self.assertEqual(parts(Ratio(-6, -8)), (3, 4))
        self.assertEqual(parts(Ratio(3, 4)), (3, 4))
        self.assertEqual(parts(Ratio(12, 4)), (3, 1))
        self.assertEqual(parts(Ratio(12, -4)), (-3, 1))
        self.assertEqual(parts(Ratio(2 * 10 ** 50, 6 * 10 ** 50)), (1, 3))

    def test_zero_has_under_one(self):
        for under in [1, 7, -7, -1]:
            self.assertEqual(parts(Ratio(0, under)), (0, 1))

    def test_a_missing_under_is_one(self):
        for over in [5, 1, 0, -1, -5]:
            self.assertEqual(parts(Ratio(over)), (over, 1))

    def test_arguments_by_keyword(self):
        self.assertEqual(parts(Ratio(over=2, under=6)), (1, 3))

    def test_all_small_ones(self):
        for over, under in SMALL:
            with self.subTest(over=over, under=under):
                self.assertEqual(parts(Ratio(over, under)), parts_of_fraction(Fraction(over, under)))

    def test_under_zero(self):
        for over in [1, 0, -3]:
            self.assert_bad_number("under", 0, Ratio, over, 0)

    def test_values_that_are_no_integers(self):
        for value in NO_INTEGERS + [Ratio(1)]:
            with self.subTest(repr(value)):
                self.assert_bad_number("over", value, Ratio, value)
                self.assert_bad_number("over", value, Ratio, value, 2)
                self.assert_bad_number("under", value, Ratio, 2, value)

    def test_the_very_value_is_kept(self):
        value = ["1"]
        for what, arguments in [("over", (value, 1)), ("under", (1, value))]:
            with self.assertRaises(BadNumber) as caught:
                Ratio(*arguments)
            self.assertEqual(caught.exception.what, what)
            self.assertIs(caught.exception.value, value)

    def test_over_is_told_first(self):
        for under in [0, "b", None, True]:
            self.assert_bad_number("over", "a", Ratio, "a", under)

    def test_half(self):
        self.assertEqual(parts(Ratio.half()), (1, 2))
        self.assertIsInstance(Ratio.half(), Ratio)
        self.assertEqual(parts(Ratio(5, 7).half()), (1, 2))


class EqualityTest(unittest.TestCase):
    def test_equal_ratios(self):
        for left, right in [(Ratio(1, 2), Ratio(2, 4)), (Ratio(-1, 3), Ratio(1, -3)), (Ratio(0), Ratio(0, 5))]:
            self.assertIs(left == right, True)
            self.assertIs(left != right, False)

    def test_other_ratios(self):
        for other in [Ratio(1, 3), Ratio(2, 3), Ratio(-1, 2), Ratio(1), Ratio(2)]:
            self.assertIs(Ratio(1, 2) == other, False)
            self.assertIs(Ratio(1, 2) != other, True)

    def test_values_of_another_class_are_never_equal(self):
        class EqualToAll:
            def __eq__(self, other):
                return True

        values = [2, True, "2", (2, 1), [2, 1], None, 2.0, Fraction(2), EqualToAll()]
        for value in values:
            with self.subTest(repr(value)):
                self.assertIs(Ratio(2) == value, False)
                self.assertIs(Ratio(2) != value, True)
        for value in values[:-1]:
            with self.subTest(repr(value)):
                self.assertIs(value == Ratio(2), False)
        self.assertIs(Ratio(0) == 0, False)
        self.assertIs(Ratio(0) == False, False)  # noqa: E712


class SignsTest(unittest.TestCase):
    def test_comparisons_of_two_ratios(self):
        for sign in COMPARISONS:
            for left in SMALL:
                for right in SMALL:
                    expected = sign(Fraction(*left), Fraction(*right))
                    self.assertIs(sign(Ratio(*left), Ratio(*right)), expected, (sign, left, right))

    def test_comparisons_with_an_integer_on_either_side(self):
        for sign in COMPARISONS:
            for pair in SMALL:
                for number in range(-5, 6):
                    told = (sign, pair, number)
                    self.assertIs(sign(Ratio(*pair), number), sign(Fraction(*pair), number), told)
                    self.assertIs(sign(number, Ratio(*pair)), sign(number, Fraction(*pair)), told)

    def test_comparisons_are_exact(self):
        many = 10 ** 40
        self.assertIs(Ratio(many, many + 1) < Ratio(many + 1, many + 2), True)
        self.assertIs(Ratio(many, many + 1) < 1, True)
        self.assertIs(1 <= Ratio(many, many + 1), False)

    def test_arithmetic_of_two_ratios(self):
        for sign in ARITHMETIC:
            for left in SMALL:
                for right in SMALL:
                    found = sign(Ratio(*left), Ratio(*right))
                    expected = sign(Fraction(*left), Fraction(*right))
                    self.assertEqual(parts(found), parts_of_fraction(expected), (sign, left, right))

    def test_arithmetic_with_an_integer_on_either_side(self):
        for sign in ARITHMETIC:
            for pair in SMALL:
                for number in range(-5, 6):
                    told = (sign, pair, number)
                    found = sign(Ratio(*pair), number)
                    self.assertEqual(parts(found), parts_of_fraction(sign(Fraction(*pair), number)), told)
                    found = sign(number, Ratio(*pair))
                    self.assertEqual(parts(found), parts_of_fraction(sign(number, Fraction(*pair))), told)

    def test_results_are_ratios(self):
        for sign in ARITHMETIC:
            for left, right in [(Ratio(1, 2), Ratio(1, 2)), (Ratio(2), 3), (3, Ratio(2))]:
                self.assertIs(type(sign(left, right)), Ratio)

    def test_integers_are_summed_with_ratios(self):
        self.assertEqual(sum([Ratio(1, 2), Ratio(1, 3), Ratio(1, 6)]), Ratio(1))

    def test_no_operation_changes_its_ratios(self):
        for sign in COMPARISONS + ARITHMETIC + [operator.eq, operator.ne, Ratio.divided]:
            left, right = Ratio(-3, 4), Ratio(5, 6)
            sign(left, right)
            sign(left, 2)
            self.assertEqual([parts(left), parts(right)], [(-3, 4), (5, 6)])
            if sign != Ratio.divided:
                sign(2, right)
                self.assertEqual(parts(right), (5, 6))
        ratio = Ratio(-3, 4)
        self.assertEqual([str(ratio), parts(ratio)], ["-3/4", (-3, 4)])

    def test_the_example_of_the_document(self):
        found = [str(Ratio(6, 8)), str(Ratio(1, 2) + Ratio(1, 3)), str(1 - Ratio(1, 4)), Ratio(1, 2) < 1]
        self.assertEqual(found, ["3/4", "5/6", "3/4", True])


class DividedTest(NumberTest):
    def test_by_a_ratio_and_by_an_integer(self):
        for left in SMALL:
            for right in SMALL:
                if right[0] != 0:
                    expected = parts_of_fraction(Fraction(*left) / Fraction(*right))
                    self.assertEqual(parts(Ratio(*left).divided(Ratio(*right))), expected)
            for number in [-5, -2, -1, 1, 2, 5]:
                expected = parts_of_fraction(Fraction(*left) / number)
                self.assertEqual(parts(Ratio(*left).divided(number)), expected)

    def test_the_result_is_a_ratio(self):
        for other in [Ratio(1, 2), Ratio(2), 2]:
            self.assertIs(type(Ratio(4).divided(other)), Ratio)

    def test_by_zero(self):
        for ratio in [Ratio(3, 4), Ratio(0), Ratio(-2)]:
            for zero in [0, Ratio(0), Ratio(0, -3)]:
                self.assert_bad_number("under", 0, ratio.divided, zero)

    def test_by_a_value_that_is_no_number(self):
        for value in NO_INTEGERS:
            with self.subTest(repr(value)):
                self.assert_bad_number("under", value, Ratio(3, 4).divided, value)


class TextTest(NumberTest):
    def test_str(self):
        told = [str(Ratio(*pair)) for pair in [(3, 4), (6, 8), (3, 1), (3, -4), (-8, 2), (0, 5), (1, 10000)]]
        self.assertEqual(told, ["3/4", "3/4", "3", "-3/4", "-4", "0", "1/10000"])

    def test_what_str_tells_is_read(self):
        for pair in [(0, 1), (1, 1), (7, 1), (9999, 1), (1, 2), (3, 4), (1, 9999), (9999, 9998), (1000, 7)]:
            ratio = Ratio(*pair)
            self.assertEqual(read_ratio(str(ratio)), ratio)

    def test_fractions_that_are_not_in_lowest_terms(self):
        for text, pair in [("6/8", (3, 4)), ("4/2", (2, 1)), ("0/7", (0, 1)), ("5/1", (5, 1)), ("9999/9999", (1, 1))]:
            self.assertEqual(parts(read_ratio(text)), pair)

    def test_under_zero(self):
        for text in ["1/0", "0/0", "9999/0"]:
            self.assert_bad_number("under", 0, read_ratio, text)

    def test_other_texts(self):
        texts = ["", "/", "//", "1/", "/2", "/0", "1//2", "1/2/3", "1/2/", "/1/2", "a", "a/0", "1/a", "a/b", "1.5"]
        texts += ["-1", "-1/2", "1/-2", "+1", "+1/2", "1/+2", "01", "01/2", "1/02", "1/00", "00/1", "00"]
        texts += ["10000", "10000/1", "1/10000", "1 /2", "1/ 2", " 1/2", "1/2 ", "1\n/2", "1/2\n", "1\n", "\n1", " "]
        texts += ["1:2", "1\\2", "1_0", "1/1_0", "1/\u0662", "\u00b2"]
        for text in texts:
            with self.subTest(text):
                self.assert_bad_number("ratio", text, read_ratio, text)
