"""[2]: the errors keep their arguments, and stand directly below OfficeError."""

import unittest

from twicedated import errors

ONE = {"BadSpans": "number", "BadRelations": "name", "BadFact": "fact", "BadChange": "word", "BadMoment": "moment",
       "BadEntry": "entry", "BadCut": "cut", "TooMany": "most"}


class ErrorsTest(unittest.TestCase):
    def test_one_argument(self):
        for name, attribute in ONE.items():
            for thing in (7, "word", None, ("a", 1), ["list"]):
                self.assertEqual(getattr(getattr(errors, name)(thing), attribute), thing)
                self.assertEqual(getattr(getattr(errors, name)(**{attribute: thing}), attribute), thing)

    def test_bad_text(self):
        error = errors.BadText(3, 4)
        self.assertEqual((error.line, error.word), (3, 4))
        error = errors.BadText(word=5, line=6)
        self.assertEqual((error.line, error.word), (6, 5))

    def test_directly_below(self):
        self.assertEqual(errors.OfficeError.__bases__, (Exception,))
        for name in [*ONE, "BadText"]:
            self.assertEqual(getattr(errors, name).__bases__, (errors.OfficeError,))

    def test_raised_and_caught(self):
        with self.assertRaises(errors.OfficeError):
            raise errors.BadMoment(5)
        with self.assertRaises(errors.OfficeError):
            raise errors.BadText(0, 0)


if __name__ == "__main__":
    unittest.main()
