"""What the tests of several files share."""

import unittest

from copyvotes.errors import BadNumber


class NumberTest(unittest.TestCase):
    """A test case that can ask for a BadNumber with its word and its very value."""

    def assert_bad_number(self, what, value, call, *arguments):
        with self.assertRaises(BadNumber) as caught:
            call(*arguments)
        self.assertEqual(caught.exception.what, what)
        self.assertIs(type(caught.exception.value), type(value))
        self.assertEqual(caught.exception.value, value)
