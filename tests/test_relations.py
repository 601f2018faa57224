"""[3]: names, days, relations and facts."""

import unittest

from helpers import LAST, NO_DAYS, NO_NAMES
from twicedated.errors import BadRelations
from twicedated.relations import checked_relations, is_day, is_fact, is_name


class NamesTest(unittest.TestCase):
    def test_names(self):
        for name in ("a", "z", "a1", "z9", "ann", "rome", "abcdefgh", "a0123456", "zzzzzzzz"):
            self.assertIs(is_name(name), True, name)

    def test_no_names(self):
        for thing in NO_NAMES:
            self.assertIs(is_name(thing), False, thing)

    def test_each_sign(self):
        for code in range(0x250):
            small = chr(code) in "abcdefghijklmnopqrstuvwxyz"
            self.assertIs(is_name(chr(code)), small, code)
            self.assertIs(is_name("a" + chr(code)), small or chr(code) in "0123456789", code)

    def test_eight_signs(self):
        for many in range(20):
            self.assertIs(is_name("b" * many), 1 <= many <= 8, many)


class DaysTest(unittest.TestCase):
    def test_days(self):
        for day in (0, 1, 2, 500000, LAST - 1, LAST):
            self.assertIs(is_day(day), True, day)

    def test_no_days(self):
        for thing in NO_DAYS:
            self.assertIs(is_day(thing), False, thing)


class FactsTest(unittest.TestCase):
    def test_facts(self):
        relations = {"a": 1, "b": 2, "c": 3, "d": 4}
        for relation, many in relations.items():
            for so_many in range(6):
                self.assertIs(is_fact(relations, (relation, ("n",) * so_many)), many == so_many)

    def test_no_facts(self):
        for thing in (None, "a", (), ("a",), ("a", ("n",), 1), ["a", ("n",)], ("a", ["n"]), ("a", "n"), ("b", ("n",)),
                      ("a", ("N",)), ("a", (1,)), ("a", (None,)), (["a"], ("n",)), (1, ("n",)), ({}, ("n",)), 5):
            self.assertIs(is_fact({"a": 1}, thing), False, thing)


class RelationsTest(unittest.TestCase):
    def test_ascending_copy(self):
        handed = {"b": 4, "a": 1, "c": 2}
        told = checked_relations(handed)
        self.assertEqual(list(told.items()), [("a", 1), ("b", 4), ("c", 2)])
        self.assertEqual(list(handed), ["b", "a", "c"])
        handed["d"] = 1
        self.assertNotIn("d", told)
        self.assertEqual(checked_relations({}), {})

    def test_first_bad_name(self):
        for relations, name in (({"a": 0}, "a"), ({"a": 5}, "a"), ({"a": True}, "a"), ({"a": None}, "a"),
                                ({"a": "1"}, "a"), ({"a": -1}, "a"), ({"a": 1.0}, "a"), ({"A": 1}, "A"), ({"": 1}, ""),
                                ({1: 1}, 1), ({None: 1}, None), ({("a",): 1}, ("a",)), ({"a": 1, "z": 9, "B": 1}, "z"),
                                ({"a": 1, "B": 1, "b": 9}, "B"), ({"abcdefghi": 1}, "abcdefghi"),
                                ({"z": [1], "a": 0}, "z")):
            with self.assertRaises(BadRelations) as caught:
                checked_relations(relations)
            self.assertEqual(caught.exception.name, name)


if __name__ == "__main__":
    unittest.main()
