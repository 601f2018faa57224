"""[22]: the errors of questions keep their arguments, and stand directly below OfficeError."""

import unittest

from twicedated import askerrors
from twicedated.errors import OfficeError

ONE = {"BadTerm": "term", "BadQuestion": "word", "BadAsk": "thing"}


class AskErrorsTest(unittest.TestCase):
    def test_one_argument(self):
        for name, attribute in ONE.items():
            for thing in (7, "word", None, ("a", 1), ["list"]):
                self.assertEqual(getattr(getattr(askerrors, name)(thing), attribute), thing)
                self.assertEqual(getattr(getattr(askerrors, name)(**{attribute: thing}), attribute), thing)

    def test_directly_below(self):
        for name in ONE:
            self.assertEqual(getattr(askerrors, name).__bases__, (OfficeError,))
            with self.assertRaises(OfficeError):
                raise getattr(askerrors, name)("word")


if __name__ == "__main__":
    unittest.main()
