"""What the tests of several files share."""

import unittest
from fractions import Fraction

from copyvotes.errors import BadNumber
from copyvotes.ratio import Ratio

NO_COPIES = [0, 9, -1, 10 ** 30, True, False, None, "3", 3.0, (3,), [3]]
# What is none of three copies.
NO_COPY = [3, -1, 10 ** 30, True, False, None, "0", "a", 1.0, (), (0,), [0]]
NO_COUNTS = [-1, -10 ** 30, True, False, None, "1", 1.0, (1,), [1], Ratio(1)]
NO_RATIOS = [0, 1, True, None, "1/2", "3/4", 0.5, (1, 2), [Ratio(1, 2)], Fraction(3, 4)]
NO_CHANCES = NO_RATIOS + [
    Ratio(499, 1000), Ratio(1, 3), Ratio(0), Ratio(-3, 4), Ratio(1), Ratio(1001, 1000), Ratio(2),
    Ratio(501, 1001), Ratio(1000, 1001), Ratio(2001, 4000),
]
NO_SHARES = NO_RATIOS + [
    Ratio(-1, 1000), Ratio(-1), Ratio(1001, 1000), Ratio(2), Ratio(1, 1001), Ratio(1000, 1001), Ratio(-1, 1001),
]
# Words that read_ratio and read_number refuse.
NO_RATIO_WORDS = [
    "", "x", "-1/2", "+1/2", "1/", "/2", "/", "1/2/3", "01/2", "1/02", "12345/99999", "1/12345", "1/0", "0/0", "1.5",
    "1/-2", "1/2\t", "1/2,", "'1/2'", "1e3", "None", "True", "00",
]
NO_NUMBER_WORDS = ["", "x", "-1", "+1", "00", "01", "12345", "1.0", "1/1", "1,2", "0\t", "one", "None"]


class EqualToAll:
    """A value of another class that claims to be equal to everything."""

    def __eq__(self, other):
        return True


class NumberTest(unittest.TestCase):
    """A test case that can ask for a BadNumber with its word and its very value."""

    def assert_bad_number(self, what, value, call, *arguments):
        with self.assertRaises(BadNumber) as caught:
            call(*arguments)
        self.assertEqual(caught.exception.what, what)
        self.assertIs(type(caught.exception.value), type(value))
        self.assertEqual(caught.exception.value, value)
