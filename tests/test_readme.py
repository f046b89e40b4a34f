"""The examples of README.md."""

import doctest
import unittest
from pathlib import Path

README = Path(__file__).resolve().parent.parent / "README.md"


class ReadmeTest(unittest.TestCase):
    def test_the_examples_hold(self):
        # Without the fences, which would count as expected output.
        text = README.read_text("utf-8").replace("```", "")
        examples = doctest.DocTestParser().get_doctest(text, {}, README.name, str(README), 0)
        told = []
        result = doctest.DocTestRunner().run(examples, out=told.append)
        self.assertEqual(result.failed, 0, "".join(told))
        self.assertGreater(result.attempted, 0)
