"""[9]: what was known otherwise at two moments, and the changes to blame, against a reading one by one."""

import unittest

from helpers import BLOCKS, LAST, NO_INTEGERS, RELATIONS, Reading, dice, put_together, row_where, some_changes
from twicedated.differences import blamed, differences, explained
from twicedated.errors import BadMoment
from twicedated.histories import History
from twicedated.spans import has, normal

FACTS = [("pays", ("bob",)), ("lives", ("ann", "rome")), ("pays", ("ann",))]
ANN = ("pays", ("ann",))


def some_history(number):
    """A history, and a reading of it."""
    changes = some_changes(dice(number), FACTS, number % 9 + 1)
    return History(RELATIONS, changes), Reading(FACTS, changes)


def pairs(history):
    """All pairs of moments."""
    moments = range(history.last_moment() + 1)
    return [(one, other) for one in moments for other in moments]


def blames_of(reading, fact, moment, row):
    """The stretches of a row with one blame, block by block."""
    return put_together([(first, last, reading.blames[moment][fact, first]) for first, last in BLOCKS
                         if has(row, first)])


class DifferencesTest(unittest.TestCase):
    def test_day_by_day(self):
        for number in range(40):
            history, reading = some_history(number)
            for one, other in pairs(history):
                found = differences(history, one, other)
                self.assertEqual(list(found), sorted(found))
                for fact in FACTS:
                    gone = row_where(lambda day: reading.known[one][fact, day] and not reading.known[other][fact, day])
                    come = row_where(lambda day: reading.known[other][fact, day] and not reading.known[one][fact, day])
                    self.assertEqual(found.get(fact, ((), ())), (gone, come))
                self.assertNotIn(((), ()), list(found.values()))
                self.assertEqual(found, {fact: (gone, come) for fact, (come, gone)
                                         in differences(history, other, one).items()})

    def test_none(self):
        history = History(RELATIONS, [("clear", "pays", ("ann",), 0, LAST), ("set", "pays", ("ann",), 3, 4),
                                      ("clear", "pays", ("ann",), 0, LAST)])
        for one, other in ((0, 0), (0, 1), (0, 3), (1, 3), (3, 3)):
            self.assertEqual(differences(history, one, other), {})
            self.assertEqual(explained(history, one, other), {})
        self.assertEqual(differences(history, 0, 2), {ANN: ((), ((3, 4),))})
        self.assertEqual(differences(history, 2, 3), {ANN: (((3, 4),), ())})


class BlamedTest(unittest.TestCase):
    def test_day_by_day(self):
        for number in range(60):
            history, reading = some_history(number)
            chance = dice(number)
            row = normal([tuple(sorted(chance.sample([a for a, _ in BLOCKS if a != 12], 2))) for _ in range(number % 4)])
            row = row_where(lambda day: has(row, day))
            for moment in range(history.last_moment() + 1):
                for fact in FACTS:
                    for spans in (row, ((0, LAST),)):
                        told = blamed(history, fact, spans, moment)
                        self.assertEqual(told, blames_of(reading, fact, moment, spans))
                        self.assertIsInstance(told, tuple)
                        self.assertEqual(blamed(history, fact, list(spans), moment), told)

    def test_one_blame_in_two_spans(self):
        history = History(RELATIONS, [("set", "pays", ("ann",), 0, 9), ("set", "pays", ("ann",), 4, 20)])
        self.assertEqual(blamed(history, ANN, ((2, 3), (5, 6), (8, 30)), 2),
                         ((2, 3, 1), (5, 6, 1), (8, 9, 1), (10, 20, 2), (21, 30, 0)))
        self.assertEqual(blamed(history, ANN, (), 2), ())
        self.assertEqual(blamed(history, ANN, ((0, LAST),), 0), ((0, LAST, 0),))
        self.assertEqual(blamed(history, ANN, ((LAST, LAST),), 1), ((LAST, LAST, 0),))


class ExplainedTest(unittest.TestCase):
    def test_each_by_a_change_between(self):
        for number in range(40):
            history, reading = some_history(number)
            for one, other in pairs(history):
                told = explained(history, one, other)
                found = differences(history, one, other)
                self.assertEqual(list(told), list(found))
                for fact, (gone, come) in found.items():
                    later = max(one, other)
                    self.assertEqual(told[fact], tuple(sorted(blames_of(reading, fact, later, gone)
                                                              + blames_of(reading, fact, later, come))))
                    self.assertIsInstance(told[fact], tuple)
                    for _, _, blame in told[fact]:
                        self.assertTrue(min(one, other) < blame <= later)

    def test_gone_beside_come(self):
        history = History(RELATIONS, [("set", "pays", ("ann",), 0, 4), ("clear", "pays", ("ann",), 2, 4),
                                      ("set", "pays", ("ann",), 5, 7)])
        self.assertEqual(explained(history, 1, 3), {ANN: ((2, 4, 2), (5, 7, 3))})
        self.assertEqual(explained(history, 3, 1), {ANN: ((2, 4, 2), (5, 7, 3))})
        self.assertEqual(explained(history, 0, 3), {ANN: ((0, 1, 1), (5, 7, 3))})


class MomentsTest(unittest.TestCase):
    def test_bad_moment(self):
        history = History(RELATIONS, [("set", "pays", ("ann",), 0, 4)])
        for moment in [*NO_INTEGERS, -1, 2]:
            for asked in (lambda: differences(history, moment, 99), lambda: differences(history, 1, moment),
                          lambda: explained(history, moment, 99), lambda: explained(history, 1, moment),
                          lambda: blamed(history, ANN, ((0, 1),), moment)):
                with self.assertRaises(BadMoment) as caught:
                    asked()
                self.assertIs(caught.exception.moment, moment)


if __name__ == "__main__":
    unittest.main()
