"""[10]: histories as though some changes had never been said, against leaving them out."""

import unittest

from helpers import BLOCKS, LAST, NO_INTEGERS, RELATIONS, Reading, dice, put_together, some_changes
from twicedated.asthough import condensed, decided, deciders, does_matter, idle, without_changes
from twicedated.errors import BadMoment
from twicedated.histories import History

FACTS = [("pays", ("bob",)), ("lives", ("ann", "rome")), ("pays", ("ann",))]
ANN = ("pays", ("ann",))


def some_history(number):
    """A history, and a reading of it."""
    changes = some_changes(dice(number), FACTS, number % 16)
    return History(RELATIONS, changes), Reading(FACTS, changes)


class WithoutTest(unittest.TestCase):
    def test_without(self):
        for number in range(40):
            history, _ = some_history(number)
            chance = dice(number)
            numbers = [k for k in range(1, history.last_moment() + 1) if chance.random() < 0.4]
            left = tuple(change for k, change in enumerate(history.changes, start=1) if k not in numbers)
            chance.shuffle(numbers)
            handed = numbers + numbers[:1]
            self.assertEqual(without_changes(history, handed), History(RELATIONS, left))
            self.assertEqual(without_changes(history, tuple(numbers)), History(RELATIONS, left))
            self.assertEqual(handed, numbers + numbers[:1])
            self.assertEqual(without_changes(history, ()), history)

    def test_first_that_is_none(self):
        history = History(RELATIONS, [("set", "pays", ("ann",), 0, 4), ("set", "pays", ("ann",), 2, 6)])
        for thing in [*NO_INTEGERS, 0, -1, 3]:
            for asked in (lambda: without_changes(history, [2, 1, thing, 99, None]),
                          lambda: without_changes(history, (thing,)), lambda: does_matter(history, thing)):
                with self.assertRaises(BadMoment) as caught:
                    asked()
                self.assertIs(caught.exception.moment, thing)


class DecidersTest(unittest.TestCase):
    def test_day_by_day(self):
        for number in range(100):
            history, reading = some_history(number)
            found = set()
            for fact in FACTS:
                told = decided(history, fact)
                self.assertEqual(told, put_together([(a, b, reading.lasts[-1][fact, a]) for a, b in BLOCKS]))
                self.assertIsInstance(told, tuple)
                found |= {change for _, _, change in told if change}
            self.assertEqual(deciders(history), sorted(found))
            short = condensed(history)
            self.assertEqual(short.changes, tuple(history.changes[k - 1] for k in sorted(found)))
            self.assertEqual(short.book_at(short.last_moment()), history.book_at(history.last_moment()))
            self.assertEqual(short.relations, RELATIONS)

    def test_edges(self):
        history = History(RELATIONS, [("set", "pays", ("ann",), 0, LAST), ("clear", "pays", ("ann",), 0, 0),
                                      ("clear", "pays", ("ann",), LAST, LAST), ("set", "pays", ("ann",), 5, 9)])
        self.assertEqual(decided(history, ANN), ((0, 0, 2), (1, 4, 1), (5, 9, 4), (10, LAST - 1, 1), (LAST, LAST, 3)))
        self.assertEqual(decided(history, ("pays", ("bob",))), ((0, LAST, 0),))
        self.assertEqual(deciders(history), [1, 2, 3, 4])
        self.assertEqual(idle(history), [4])
        empty = History(RELATIONS, ())
        self.assertEqual((deciders(empty), idle(empty), condensed(empty)), ([], [], empty))


class MatterTest(unittest.TestCase):
    def test_against_leaving_out(self):
        for number in range(120):
            history, _ = some_history(number)
            book = history.book_at(history.last_moment())
            lazy = []
            for k in range(1, history.last_moment() + 1):
                other = History(RELATIONS, history.changes[:k - 1] + history.changes[k:])
                same = other.book_at(other.last_moment()) == book
                self.assertIs(does_matter(history, k), not same)
                if same:
                    lazy.append(k)
                else:
                    self.assertIn(k, deciders(history))
            self.assertEqual(idle(history), lazy)

    def test_who_decides_may_not_matter(self):
        history = History(RELATIONS, [("clear", "pays", ("ann",), 0, 4), ("set", "pays", ("bob",), 0, 4),
                                      ("set", "pays", ("bob",), 2, 3)])
        self.assertEqual(deciders(history), [1, 2, 3])
        self.assertEqual([does_matter(history, k) for k in (1, 2, 3)], [False, True, False])
        self.assertEqual(idle(history), [1, 3])


if __name__ == "__main__":
    unittest.main()
