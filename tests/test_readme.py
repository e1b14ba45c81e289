"""Tests that the examples of README.md answer as they say."""

import doctest
import pathlib
import unittest

README = pathlib.Path(__file__).resolve().parent.parent / "README.md"


class Examples(unittest.TestCase):
    def test_examples(self):
        text = README.read_text(encoding="utf-8").replace("```", "")
        examples = doctest.DocTestParser().get_doctest(text, {}, "README.md", "README.md", 0)
        self.assertGreater(len(examples.examples), 5)
        shown = []
        result = doctest.DocTestRunner().run(examples, out=shown.append)
        self.assertEqual(result.failed, 0, "".join(shown))
