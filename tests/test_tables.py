"""[21]: tables of histories, and histories out of tables that knew the same; changes from one book to another."""

import itertools
import unittest

from helpers import BLOCKS, LAST, RELATIONS, Reading, dice, row_of, some_changes
from twicedated.books import Book, empty_book
from twicedated.errors import BadMoment
from twicedated.histories import History, from_columns
from twicedated.tables import are_alike, change_to, history_of, table_of

FACTS = [("lives", ("ann", "oslo")), ("lives", ("ann", "rome")), ("pays", ("ann",)), ("pays", ("bob",))]
FEW = list(range(4))


def some_history(number, facts=FACTS, many=None):
    """A history of some changes."""
    chance = dice(number)
    return History(RELATIONS, some_changes(chance, facts, number % 9 if many is None else many))


def all_rows():
    """The rows of all sets of few days."""
    return [row_of(days) for many in range(5) for days in itertools.combinations(FEW, many)]


class TableTest(unittest.TestCase):
    def test_what_was_known_when(self):
        for number in range(60):
            history = some_history(number)
            reading = Reading(FACTS, history.changes)
            table = table_of(history)
            self.assertEqual(list(table), sorted(table))
            self.assertEqual(set(table), {fact for fact in FACTS
                                          if any(reading.known[moment][fact, day]
                                                 for moment in range(len(history.changes) + 1) for day, _ in BLOCKS)})
            for fact in table:
                self.assertEqual(table[fact], history.columns(fact))
            for moment in range(len(history.changes) + 1):
                self.assertEqual(from_columns(RELATIONS, table, moment).rows, reading.rows(moment))

    def test_what_was_never_known(self):
        history = History(RELATIONS, [("clear", *FACTS[0], 0, 9), ("set", *FACTS[2], 5, 5), ("clear", *FACTS[2], 0, 9)])
        self.assertEqual(table_of(history), {FACTS[2]: ((5, 5, ((2, 2),)),)})
        self.assertEqual(table_of(History({}, [])), {})

    def test_there_and_back(self):
        for number in range(120):
            history = some_history(number)
            table, last = table_of(history), history.last_moment()
            handed = dict(table)
            again = history_of(RELATIONS, table, last)
            self.assertEqual(table, handed)
            self.assertEqual(again.relations, history.relations)
            self.assertEqual(again.last_moment(), last)
            self.assertEqual(table_of(again), table)
            for moment in range(last + 1):
                self.assertEqual(again.book_at(moment), history.book_at(moment))
            self.assertIs(are_alike(history, again), True)
            upside_down = {fact: list(table[fact]) for fact in reversed(list(table))}
            self.assertIs(are_alike(history_of(RELATIONS, upside_down, last), history), True)

    def test_moments_at_which_nothing_changes(self):
        for last in range(4):
            self.assertEqual(history_of(RELATIONS, {}, last).last_moment(), last)
            self.assertEqual(table_of(history_of({"a": 4}, {}, last)), {})
        self.assertEqual(history_of({}, {}, 0), History({}, []))
        # Here the fact that lets a history have idle changes is so on day 0 itself.
        fact = ("lives", ("a", "a"))
        for first, last in ((0, 0), (0, LAST), (1, LAST), (5, 5)):
            table = {fact: ((first, last, ((2, 4),)),)}
            again = history_of(RELATIONS, table, 6)
            self.assertEqual(again.last_moment(), 6)
            self.assertEqual(table_of(again), table)

    def test_the_first_moment_without_a_history(self):
        told = set()
        for number in range(200):
            history = some_history(number, FACTS[:2], 5)
            # Every other moment is left out, so now and then more than one change is needed for a step.
            table = {}
            for fact in FACTS[:2]:
                columns = []
                for first, last, _ in history.columns(fact):
                    known = [history.was_known(fact, first, moment) for moment in (0, 2, 4)]
                    moments = [(moment, moment) for moment in (1, 2) if known[moment]]
                    columns.append((first, last, tuple(moments)))
                table[fact] = tuple(columns)
            books = [history.book_at(moment) for moment in (0, 2, 4)]
            bad = [moment for moment in (1, 2) if books[moment - 1] != books[moment]
                   and change_to(books[moment - 1], books[moment]) is None]
            told.add(bad[0] if bad else None)
            if bad:
                with self.assertRaises(BadMoment) as caught:
                    history_of(RELATIONS, table, 2)
                self.assertEqual(caught.exception.moment, bad[0])
            else:
                again = history_of(RELATIONS, table, 2)
                self.assertEqual([again.book_at(moment) for moment in range(3)], books)
        self.assertEqual(told, {None, 1, 2})

    def test_moment_0(self):
        for moments in (((0, 0),), ((0, None),), ((0, 5), (7, None))):
            for last in (0, 1, 9):
                for table in ({FACTS[2]: ((5, 6, moments),)}, {FACTS[2]: ((5, 6, ((1, None),)),), FACTS[3]: ((1, 1, moments),)},
                              {FACTS[2]: ((5, 6, moments), (9, 9, ((1, 1),)))}):
                    with self.assertRaises(BadMoment) as caught:
                        history_of(RELATIONS, table, last)
                    self.assertEqual(caught.exception.moment, 0)

    def test_two_facts_at_once(self):
        table = {FACTS[0]: ((5, 6, ((3, None),)),), FACTS[2]: ((5, 6, ((1, 2),)),)}
        self.assertEqual(history_of(RELATIONS, table, 2).last_moment(), 2)
        with self.assertRaises(BadMoment) as caught:
            history_of(RELATIONS, table, 3)
        self.assertEqual(caught.exception.moment, 3)
        # What the table tells of moments behind the last one doesn't matter.
        self.assertEqual(history_of(RELATIONS, {FACTS[0]: ((5, 6, ((3, None),)),)}, 2), history_of(RELATIONS, {}, 2))

    def test_no_change_leads_there(self):
        table = {FACTS[0]: ((5, 6, ((1, None),)), (8, 9, ((1, None),)))}
        with self.assertRaises(BadMoment) as caught:
            history_of(RELATIONS, table, 1)
        self.assertEqual(caught.exception.moment, 1)
        table = {FACTS[0]: ((5, 6, ((1, None),)), (8, 9, ((2, 2),)), (12, 12, ((3, 3),)))}
        with self.assertRaises(BadMoment) as caught:
            history_of(RELATIONS, table, 4)
        self.assertEqual(caught.exception.moment, 3)


class ChangeToTest(unittest.TestCase):
    def test_against_all_changes(self):
        fact = FACTS[1]
        rows = all_rows()
        none = 0
        for was, now in itertools.product(rows, rows):
            early, late = Book(RELATIONS, {fact: was}), Book(RELATIONS, {fact: now})
            can = any(early.changed((word, *fact, first, last)) == late
                      for word in ("set", "clear") for first in FEW for last in FEW if first <= last)
            change = change_to(early, late)
            if early == late or not can:
                self.assertIsNone(change)
                none += early != late
            else:
                self.assertEqual(early.changed(change), late)
        self.assertGreater(none, 20)

    def test_two_facts(self):
        book = Book(RELATIONS, {FACTS[0]: [(3, 9)], FACTS[2]: [(0, LAST)]})
        self.assertIsNone(change_to(empty_book(RELATIONS), book))
        self.assertIsNone(change_to(book, empty_book(RELATIONS)))
        self.assertIsNone(change_to(book, book))
        self.assertIsNone(change_to(empty_book(RELATIONS), empty_book(RELATIONS)))
        one = Book(RELATIONS, {FACTS[2]: [(0, LAST)]})
        self.assertEqual(book.changed(change_to(book, one)), one)
        self.assertEqual(one.changed(change_to(one, book)), book)
        self.assertEqual(one.changed(change_to(one, empty_book(RELATIONS))), empty_book(RELATIONS))


class AlikeTest(unittest.TestCase):
    def test_alike(self):
        relations = {**RELATIONS, "owns": 1}
        one = History(RELATIONS, [("set", *FACTS[0], 0, 9), ("clear", *FACTS[0], 20, 30), ("clear", *FACTS[0], 5, 9)])
        for changes, told in (([("set", *FACTS[0], 0, 9), ("clear", *FACTS[1], 0, 0), ("clear", *FACTS[0], 5, 30)], True),
                              ([("set", *FACTS[0], 0, 9), ("clear", *FACTS[0], 5, 9)], False),
                              ([("set", *FACTS[0], 0, 9), ("clear", *FACTS[0], 5, 9), ("clear", *FACTS[0], 20, 30)], False),
                              ([*one.changes, ("clear", *FACTS[0], 20, 30)], False), ([], False)):
            for other in (History(RELATIONS, changes), History(relations, changes)):
                self.assertIs(are_alike(one, other), told)
                self.assertIs(are_alike(other, one), told)

    def test_against_books(self):
        both = set()
        for number in range(300):
            one, other = some_history(number, FACTS[:1], 2), some_history(number + 1000, FACTS[:1], 2)
            if number % 2:
                other = History(RELATIONS, [*one.changes[:1], *other.changes[1:]])
            told = all(one.book_at(moment) == other.book_at(moment) for moment in range(3))
            both.add(told)
            self.assertIs(are_alike(one, other), told)
        self.assertEqual(both, {True, False})


if __name__ == "__main__":
    unittest.main()
