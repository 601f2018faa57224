"""[7], [8] and blame of [9]: histories, against a reading of the changes one by one."""

import unittest

from helpers import BLOCKS, DAYS, LAST, NO_INTEGERS, RELATIONS, Reading, dice, put_together, some_changes
from twicedated.books import Book, empty_book
from twicedated.errors import BadChange, BadFact, BadMoment, BadRelations
from twicedated.histories import History, from_columns

FACTS = [("pays", ("bob",)), ("lives", ("ann", "rome")), ("lives", ("ann", "oslo")), ("pays", ("ann",))]
ANN = ("pays", ("ann",))
ANN_SET = ("set", "pays", ("ann",), 3, 8)
ANN_CLEAR = ("clear", "pays", ("ann",), 5, 5)


def some_history(number, many=14):
    """A history, and a reading of it."""
    changes = some_changes(dice(number), FACTS, number % many)
    return History(RELATIONS, changes), Reading(FACTS, changes)


class HistoryTest(unittest.TestCase):
    def test_attributes(self):
        relations, changes = {"pays": 1, "lives": 2}, [ANN_SET, ANN_CLEAR]
        history = History(relations, changes)
        relations["x"] = 1
        changes.append(ANN_SET)
        self.assertEqual(list(history.relations.items()), [("lives", 2), ("pays", 1)])
        self.assertEqual(history.changes, (ANN_SET, ANN_CLEAR))
        self.assertIsInstance(history.changes, tuple)
        self.assertEqual(history.last_moment(), 2)
        self.assertEqual(History({}, ()).last_moment(), 0)
        self.assertEqual(list(relations), ["pays", "lives", "x"])
        self.assertEqual(changes, [ANN_SET, ANN_CLEAR, ANN_SET])

    def test_bad_relations_first(self):
        for relations, name in (({"pays": 1, "Lives": 2, "x": 7}, "Lives"), ({"pays": True}, "pays"), ({"a": 0}, "a")):
            with self.assertRaises(BadRelations) as caught:
                History(relations, [None])
            self.assertEqual(caught.exception.name, name)
        with self.assertRaises(BadRelations):
            from_columns({"pays": 5}, {"no fact": ()}, 0)

    def test_first_bad_change(self):
        wrong = {"form": ("set", "pays", ("ann",), 3), "word": ("Set", "x", (), 1, 0), "relation": ("set", "x", (), 1, 0),
                 "names": ("set", "pays", (), 1, 0), "days": ("set", "pays", ("ann",), 1, 0)}
        for word, change in wrong.items():
            for other in wrong.values():
                with self.assertRaises(BadChange) as caught:
                    History(RELATIONS, [ANN_SET, change, other])
                self.assertEqual(caught.exception.word, word)
            with self.assertRaises(BadChange) as caught:
                History(RELATIONS, ()).said(change)
            self.assertEqual(caught.exception.word, word)

    def test_said(self):
        history = History(RELATIONS, [ANN_SET])
        longer = history.said(ANN_CLEAR)
        self.assertEqual(history, History(RELATIONS, (ANN_SET,)))
        self.assertEqual(longer, History(RELATIONS, (ANN_SET, ANN_CLEAR)))
        self.assertEqual(longer.said(ANN_SET).changes, (ANN_SET, ANN_CLEAR, ANN_SET))
        self.assertEqual(longer.book_at(2).rows, {ANN: ((3, 4), (6, 8))})
        longer.relations["x"] = 1
        self.assertEqual(history.relations, RELATIONS)

    def test_equal(self):
        history = History(RELATIONS, [ANN_SET, ANN_CLEAR])
        self.assertEqual(history, History({"pays": 1, "lives": 2}, (ANN_SET, ANN_CLEAR)))
        self.assertNotEqual(history, History(RELATIONS, [ANN_CLEAR, ANN_SET]))
        self.assertNotEqual(history, History({"pays": 1}, [ANN_SET, ANN_CLEAR]))
        self.assertNotEqual(history, History(RELATIONS, [ANN_SET]))
        for thing in (None, 5, (ANN_SET, ANN_CLEAR), history.changes, history.book_at(2), object()):
            self.assertIs(history == thing, False)
            self.assertIs(history != thing, True)

    def test_what_was_known(self):
        for number in range(80):
            history, reading = some_history(number)
            self.assertEqual(history.facts(), sorted({(change[1], change[2]) for change in history.changes}))
            for moment in range(history.last_moment() + 1):
                book = history.book_at(moment)
                self.assertEqual(book.rows, reading.rows(moment))
                self.assertEqual(list(book.rows), sorted(book.rows))
                self.assertEqual(book.relations, RELATIONS)
                for fact in FACTS:
                    for day, _ in BLOCKS:
                        key = (fact, day)
                        self.assertIs(history.was_known(fact, day, moment), reading.known[moment][key])
                        self.assertEqual(history.last_change(fact, day, moment), reading.lasts[moment][key])
                        self.assertEqual(history.blame(fact, day, moment), reading.blames[moment][key])
            for fact in FACTS:
                for day, _ in BLOCKS:
                    self.assertEqual(history.moments_when(fact, day), reading.moments(fact, day))

    def test_nothing_at_first(self):
        history = History(RELATIONS, [("set", "pays", ("ann",), 0, LAST)])
        self.assertEqual(history.book_at(0), empty_book(RELATIONS))
        self.assertEqual([history.was_known(ANN, 0, 0), history.was_known(ANN, LAST, 0)], [False, False])
        self.assertEqual([history.was_known(ANN, 0, 1), history.was_known(ANN, LAST, 1)], [True, True])
        self.assertEqual([history.last_change(ANN, LAST, 0), history.last_change(ANN, LAST, 1)], [0, 1])
        self.assertEqual(history.book_at(1).rows, {ANN: ((0, LAST),)})

    def test_set_and_cleared_again(self):
        words = ["clear", "set", "set", "clear", "clear", "set"]
        history = History({"pays": 1}, [(word, "pays", ("ann",), 4, 6) for word in words])
        self.assertEqual(history.moments_when(ANN, 5), ((2, 3), (6, None)))
        self.assertEqual(history.moments_when(ANN, 7), ())
        self.assertEqual(history.moments_when(("pays", ("bob",)), 5), ())
        self.assertEqual([history.blame(ANN, 5, moment) for moment in range(7)], [0, 0, 2, 2, 4, 4, 6])
        self.assertEqual([history.last_change(ANN, 5, moment) for moment in range(7)], [0, 1, 2, 3, 4, 5, 6])
        self.assertEqual([history.was_known(ANN, 5, moment) for moment in range(7)],
                         [False, False, True, True, False, False, True])
        self.assertEqual(history.columns(ANN), ((4, 6, ((2, 3), (6, None))),))
        self.assertEqual(History({"pays": 1}, [("clear", "pays", ("ann",), 1, 2)]).facts(), [ANN])

    def test_bad_moment(self):
        history = History(RELATIONS, [ANN_SET, ANN_CLEAR])
        for moment in [*NO_INTEGERS, -1, 3, 10 ** 30]:
            for asked in (lambda: history.book_at(moment), lambda: history.was_known(ANN, 5, moment),
                          lambda: history.last_change(ANN, 5, moment), lambda: history.blame(ANN, 5, moment)):
                with self.assertRaises(BadMoment) as caught:
                    asked()
                self.assertIs(caught.exception.moment, moment)
        with self.assertRaises(BadMoment):
            History({}, ()).book_at(1)
        self.assertEqual(History({}, ()).book_at(0), empty_book({}))

    def test_many_changes(self):
        changes = [(("set", "clear")[k % 2], "pays", ("ann",), k, LAST - k) for k in range(2000)]
        history = History({"pays": 1}, changes)
        row = history.book_at(2000).spans_of("pays", ("ann",))
        self.assertEqual(row, tuple([(k, k) for k in range(0, 2000, 2)] + [(LAST - k, LAST - k)
                                                                         for k in range(1998, -1, -2)]))


class ColumnsTest(unittest.TestCase):
    def test_columns(self):
        for number in range(120):
            history, reading = some_history(number)
            for fact in FACTS:
                rows = put_together([(first, last, reading.moments(fact, first)) for first, last in BLOCKS])
                told = history.columns(fact)
                self.assertEqual(told, tuple(row for row in rows if row[2]))
                self.assertIsInstance(told, tuple)

    def test_known_at_the_same_moments(self):
        history = History({"pays": 1}, [("set", "pays", ("ann",), 0, 4), ("set", "pays", ("ann",), 3, LAST),
                                        ("clear", "pays", ("ann",), 9, LAST), ("clear", "pays", ("ann",), 2, 2)])
        self.assertEqual(history.columns(ANN), ((0, 1, ((1, None),)), (2, 2, ((1, 3),)), (3, 4, ((1, None),)),
                                                (5, 8, ((2, None),)), (9, LAST, ((2, 2),))))
        self.assertEqual(history.columns(("pays", ("bob",))), ())
        self.assertEqual(History({"pays": 1}, [("set", "pays", ("ann",), 0, LAST)]).columns(ANN),
                         ((0, LAST, ((1, None),)),))

    def test_books_of_columns(self):
        for number in range(60):
            history, reading = some_history(number)
            told = {fact: history.columns(fact) for fact in history.facts()[::-1]}
            for moment in range(history.last_moment() + 1):
                self.assertEqual(from_columns(RELATIONS, told, moment), history.book_at(moment))
                self.assertEqual(from_columns(RELATIONS, told, moment).rows, reading.rows(moment))

    def test_of_any_columns(self):
        told = {("pays", ("bob",)): (), ANN: [(0, 4, ((1, 2), (4, None))), (5, 9, ((2, 3),)), (20, LAST, ((3, None),))]}
        rows = {0: (), 1: ((0, 4),), 2: ((0, 9),), 3: ((5, 9), (20, LAST)), 4: ((0, 4), (20, LAST)),
                1000: ((0, 4), (20, LAST))}
        for moment, row in rows.items():
            self.assertEqual(from_columns({"pays": 1}, told, moment), Book({"pays": 1}, {ANN: row}))
        with self.assertRaises(BadFact) as caught:
            from_columns({"pays": 2}, told, 0)
        self.assertEqual(caught.exception.fact, ("pays", ("bob",)))
        self.assertEqual(from_columns({}, {}, 5), empty_book({}))


class DaysTest(unittest.TestCase):
    def test_each_day_at_the_ends(self):
        history = History({"pays": 1}, [("set", "pays", ("ann",), 0, 0), ("set", "pays", ("ann",), LAST, LAST)])
        for moment, days in ((0, []), (1, [0]), (2, [0, LAST])):
            self.assertEqual([day for day in DAYS if history.was_known(ANN, day, moment)], days)
            self.assertEqual(history.book_at(moment).spans_of(*ANN), tuple((day, day) for day in days))


if __name__ == "__main__":
    unittest.main()
