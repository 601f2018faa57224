"""The examples of README.md tell what they say."""

import doctest
import pathlib
import unittest

README = pathlib.Path(__file__).resolve().parent.parent / "README.md"


class ReadmeTest(unittest.TestCase):
    def test_examples(self):
        text = README.read_text(encoding="utf-8").replace("```", "")
        example = doctest.DocTestParser().get_doctest(text, {}, "README.md", None, 0)
        self.assertTrue(example.examples)
        self.assertEqual(doctest.DocTestRunner().run(example).failed, 0)


if __name__ == "__main__":
    unittest.main()
