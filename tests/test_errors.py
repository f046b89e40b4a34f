"""The error classes: promise [3] and the section copyvotes/errors.py."""

import unittest

from copyvotes import errors

ATTRIBUTES = {
    "BadNumber": ("what", "value"),
    "BadLot": ("place",),
    "NoMeeting": ("read", "write"),
    "BadTrade": ("place", "reason"),
    "BadFlow": ("lot", "member"),
    "BadText": ("line",),
    "BadDeed": ("place",),
    "TooMany": ("limit",),
    "Unlike": (),
    "NothingToUndo": (),
}


class ErrorsTest(unittest.TestCase):
    def test_the_base_derives_directly_from_value_error(self):
        self.assertEqual(errors.VoteError.__bases__, (ValueError,))

    def test_each_error_derives_directly_from_the_base(self):
        for name in ATTRIBUTES:
            with self.subTest(name):
                self.assertEqual(getattr(errors, name).__bases__, (errors.VoteError,))

    def test_there_are_no_other_errors(self):
        found = {name for name in vars(errors) if isinstance(getattr(errors, name), type)}
        self.assertEqual(found, {"VoteError", *ATTRIBUTES})

    def test_each_error_is_defined_in_its_file(self):
        for name in ["VoteError", *ATTRIBUTES]:
            with self.subTest(name):
                self.assertEqual(getattr(errors, name).__module__, "copyvotes.errors")

    def test_attributes_are_the_very_values_in_their_order(self):
        for name, attributes in ATTRIBUTES.items():
            with self.subTest(name):
                values = [["a value of its own", place] for place in range(len(attributes))]
                error = getattr(errors, name)(*values)
                self.assertEqual(list(vars(error)), list(attributes))
                for attribute, value in zip(attributes, values):
                    self.assertIs(getattr(error, attribute), value)

    def test_attributes_by_keyword(self):
        for name, attributes in ATTRIBUTES.items():
            with self.subTest(name):
                values = {attribute: object() for attribute in attributes}
                error = getattr(errors, name)(**values)
                self.assertEqual(vars(error), values)

    def test_arguments_may_not_be_missing(self):
        for name, attributes in ATTRIBUTES.items():
            for many in range(len(attributes)):
                with self.subTest(name, many=many), self.assertRaises(TypeError):
                    getattr(errors, name)(*range(many))

    def test_each_error_is_caught_as_the_base_and_as_value_error(self):
        for name, attributes in ATTRIBUTES.items():
            for caught in (errors.VoteError, ValueError):
                with self.subTest(name), self.assertRaises(caught):
                    raise getattr(errors, name)(*attributes)
