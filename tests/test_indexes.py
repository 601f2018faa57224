"""[14]: what was known on a day at a moment, looked up, against the history itself."""

import unittest

from helpers import BLOCKS, DAYS, LAST, RELATIONS, dice, some_changes
from twicedated.histories import History
from twicedated.indexes import Index

FACTS = [("pays", (f"p{number}",)) for number in range(9)] + [("lives", ("ann", "rome")), ("lives", ("ann", "oslo"))]


def columns_of(history, relation):
    """All columns of the facts of a relation."""
    return [column for fact in history.facts() if fact[0] == relation for column in history.columns(fact)]


class IndexTest(unittest.TestCase):
    def look_at(self, history, relation, days, moments):
        index = Index(history, relation)
        columns = columns_of(history, relation)
        depth = index.depth()
        if columns:
            self.assertLessEqual(1, depth)
            self.assertLessEqual(2 ** depth, 2 * len(columns))
        else:
            self.assertEqual(depth, 0)
        for day in days:
            many = sum(1 for first, last, _ in columns if first <= day <= last)
            for moment in moments:
                names, looked = index.known(day, moment)
                self.assertEqual(names, history.book_at(moment).facts_on(relation, day))
                self.assertLessEqual(looked, many + depth)
                self.assertGreaterEqual(looked, len(names))
                self.assertEqual(index.known(day, moment), (names, looked))
        self.assertEqual(index.depth(), depth)

    def test_against_the_history(self):
        for number in range(80):
            chance = dice(number)
            history = History(RELATIONS, some_changes(chance, FACTS, number % 25))
            ahead = History(RELATIONS, history.changes)
            for relation in ("pays", "lives"):
                days = [first for first, _ in BLOCKS] + [LAST - 12, LAST]
                self.look_at(history, relation, days, {0, history.last_moment(), chance.randrange(number % 25 + 1)})
            self.assertEqual(history, ahead)

    def test_no_columns(self):
        for history in (History(RELATIONS, ()), History(RELATIONS, [("clear", "pays", ("ann",), 0, LAST)]),
                        History(RELATIONS, [("set", "lives", ("ann", "rome"), 0, LAST)])):
            self.assertEqual(Index(history, "pays").depth(), 0)
            for day in (0, 5, LAST):
                for moment in range(history.last_moment() + 1):
                    self.assertEqual(Index(history, "pays").known(day, moment), ([], 0))

    def test_one_column(self):
        history = History(RELATIONS, [("set", "pays", ("ann",), 5, 9)])
        self.assertEqual(Index(history, "pays").depth(), 1)
        self.look_at(history, "pays", DAYS, [0, 1])
        history = History(RELATIONS, [("set", "pays", ("ann",), 0, LAST), ("clear", "pays", ("ann",), 0, LAST)])
        self.look_at(history, "pays", [0, 1, LAST], [0, 1, 2])
        self.assertEqual([Index(history, "pays").known(LAST, moment)[0] for moment in (0, 1, 2)], [[], [("ann",)], []])

    def test_many_columns(self):
        layouts = {
            "beside": lambda k: (10 * k, 10 * k + 5), "each in the next": lambda k: (1000 - k, 2000 + k),
            "one day": lambda k: (7, 7), "stairs": lambda k: (k, k + 300), "from 0": lambda k: (0, 3 * k),
            "to the last": lambda k: (3 * k, LAST), "all": lambda k: (0, LAST), "far": lambda k: (k * k, k * k + k)}
        for word, layout in layouts.items():
            for many in (2, 3, 4, 7, 8, 9, 100, 127, 128, 129):
                changes = [("set", "pays", (f"p{k}",), *layout(k)) for k in range(many)]
                history = History(RELATIONS, changes)
                days = [0, 5, 7, 8, 300, 999, 1500, 10 * many, LAST]
                self.look_at(history, "pays", days, [0, many // 2, many])

    def test_few_are_looked_at(self):
        changes = [("set", "pays", (f"p{k}",), 10 * k, 10 * k + 3) for k in range(1000)]
        index = Index(History(RELATIONS, changes), "pays")
        self.assertLessEqual(index.depth(), 10)
        for day, names in ((5000, [("p500",)]), (5005, []), (0, [("p0",)]), (9993, [("p999",)]), (LAST, [])):
            found, looked = index.known(day, 1000)
            self.assertEqual(found, names)
            self.assertLessEqual(looked, 11)

    def test_names_ascend(self):
        changes = [("set", "lives", (who, town), 3, 9) for who in ("zoe", "ann", "bob") for town in ("rome", "oslo")]
        self.assertEqual(Index(History(RELATIONS, changes), "lives").known(5, 6)[0],
                         [("ann", "oslo"), ("ann", "rome"), ("bob", "oslo"), ("bob", "rome"), ("zoe", "oslo"), ("zoe", "rome")])


if __name__ == "__main__":
    unittest.main()
