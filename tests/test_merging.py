"""[20]: what two offices know together, against reading day by day; and rows of changes in either order."""

import itertools
import unittest

from helpers import DAYS, LAST, RELATIONS, days_of, dice, row_of, some_book_days, some_changes
from twicedated.books import Book, empty_book
from twicedated.errors import BadChange
from twicedated.merging import both_touched, do_agree, merged, replayed, touched

FACTS = [("lives", ("ann", "oslo")), ("lives", ("ann", "rome")), ("pays", ("ann",)), ("pays", ("bob",))]
WRONG = {"form": None, "word": ("put", "x", (), 1, 0), "relation": ("set", "x", (), 1, 0),
         "names": ("set", "pays", (), 1, 0), "days": ("set", "pays", ("ann",), 1, 0)}


def book_of(days):
    """The book of a dict from facts to sets of days."""
    return Book(RELATIONS, {fact: row_of(days[fact]) for fact in days})


def is_so(days, fact, day):
    """Whether a fact is so on a day, by a dict from facts to sets of days."""
    return day in days.get(fact, ())


class MergedTest(unittest.TestCase):
    def test_day_by_day(self):
        shared = 0
        for number in range(150):
            chance = dice(number)
            base, one, other = [some_book_days(chance, FACTS) for _ in range(3)]
            books = [book_of(days) for days in (base, one, other)]
            rows = [dict(book.rows) for book in books]
            told = {}
            both = {}
            for fact, day in itertools.product(FACTS, DAYS):
                was, here, there = [is_so(days, fact, day) for days in (base, one, other)]
                if here if here != was else there:
                    told.setdefault(fact, set()).add(day)
                if here != was and there != was:
                    self.assertEqual(here, there)
                    both.setdefault(fact, set()).add(day)
            found = merged(*books)
            self.assertEqual(found, book_of(told))
            self.assertEqual(list(found.rows), sorted(found.rows))
            self.assertEqual(merged(books[0], books[2], books[1]), found)
            shared += bool(both)
            told = {fact: row_of(both[fact]) for fact in sorted(both)}
            self.assertEqual(list(both_touched(*books).items()), list(told.items()))
            self.assertEqual(both_touched(books[0], books[2], books[1]), told)
            self.assertEqual([book.rows for book in books], rows)
        self.assertGreater(shared, 20)

    def test_touched(self):
        for number in range(100):
            chance = dice(number)
            base, other = some_book_days(chance, FACTS), some_book_days(chance, FACTS)
            told = {fact: row_of(base.get(fact, set()) ^ other.get(fact, set())) for fact in FACTS}
            found = touched(book_of(base), book_of(other))
            self.assertEqual(list(found.items()), [(fact, told[fact]) for fact in FACTS if told[fact]])
            self.assertEqual(touched(book_of(other), book_of(base)), found)

    def test_books_that_are_one(self):
        for number in range(20):
            book = book_of(some_book_days(dice(number), FACTS))
            other = book_of(some_book_days(dice(number + 100), FACTS))
            self.assertEqual(merged(book, book, book), book)
            self.assertEqual(merged(book, other, book), other)
            self.assertEqual(merged(book, book, other), other)
            self.assertEqual(merged(book, other, other), other)
            self.assertEqual(touched(book, book), {})
            self.assertEqual(both_touched(book, other, book), {})
            self.assertEqual(both_touched(book, other, other), touched(book, other))
        empty = empty_book(RELATIONS)
        self.assertEqual(merged(empty, empty, empty), empty)
        self.assertEqual(both_touched(empty, empty, empty), {})

    def test_both_changed_a_day_alike(self):
        fact = FACTS[1]
        base = Book(RELATIONS, {fact: [(10, 20)]})
        one = base.changed(("clear", *fact, 15, 30)).changed(("set", *fact, 0, 3))
        other = base.changed(("clear", *fact, 18, 19)).changed(("set", *fact, 2, 5))
        self.assertEqual(merged(base, one, other).rows, {fact: ((0, 5), (10, 14))})
        self.assertEqual(both_touched(base, one, other), {fact: ((2, 3), (18, 19))})
        self.assertEqual(touched(base, one), {fact: ((0, 3), (15, 20))})

    def test_the_first_day_and_the_last_one(self):
        fact = FACTS[2]
        base = Book(RELATIONS, {fact: [(0, 0), (LAST, LAST)]})
        one = base.changed(("clear", *fact, 0, 0))
        other = base.changed(("set", *fact, 1, LAST))
        self.assertEqual(merged(base, one, other).rows, {fact: ((1, LAST),)})
        self.assertEqual(touched(base, other), {fact: ((1, LAST - 1),)})
        self.assertEqual(both_touched(base, one, other), {})


class ReplayedTest(unittest.TestCase):
    def test_one_behind_the_other(self):
        for number in range(60):
            chance = dice(number)
            base = book_of(some_book_days(chance, FACTS))
            changes = some_changes(chance, FACTS, number % 7)
            days = {fact: days_of(base.rows.get(fact, ())) for fact in FACTS}
            for word, relation, names, first, last in changes:
                span = {day for day in DAYS if first <= day <= last}
                fact = relation, names
                days[fact] = days[fact] | span if word == "set" else days[fact] - span
            for told in (changes, tuple(changes)):
                book = replayed(base, told)
                for fact in FACTS:
                    self.assertEqual({day for day in DAYS if book.has(*fact, day)}, days[fact])

    def test_either_order(self):
        both = set()
        for number in range(300):
            chance = dice(number)
            base = book_of(some_book_days(chance, FACTS))
            one = some_changes(chance, FACTS, chance.randrange(3))
            other = some_changes(chance, FACTS, chance.randrange(3))
            handed = list(one), list(other)
            told = replayed(replayed(base, one), other) == replayed(replayed(base, other), one)
            both.add(told)
            self.assertIs(do_agree(base, one, other), told)
            self.assertIs(do_agree(base, tuple(other), tuple(one)), told)
            self.assertEqual((one, other), handed)
            if told:
                # What both rows of changes touch they touch alike, so nothing is lost by merging.
                mine, theirs = replayed(base, one), replayed(base, other)
                self.assertEqual(merged(base, mine, theirs), merged(base, theirs, mine))
        self.assertEqual(both, {True, False})

    def test_simple_ones(self):
        base = empty_book(RELATIONS)
        one = ("set", *FACTS[0], 0, 9)
        for other, told in ((("set", *FACTS[0], 5, 20), True), (("clear", *FACTS[0], 5, 20), False),
                            (("clear", *FACTS[0], 10, 20), True), (("clear", *FACTS[1], 5, 20), True)):
            self.assertIs(do_agree(base, [one], [other]), told)
        self.assertIs(do_agree(base, [], [one]), True)
        self.assertEqual(replayed(base, []), base)

    def test_wrong_changes(self):
        base, right = empty_book(RELATIONS), ("set", *FACTS[0], 0, 9)
        for (word, change), other in itertools.product(WRONG.items(), WRONG.values()):
            for asked in (lambda: replayed(base, [right, change, other]), lambda: do_agree(base, [right, change], [other]),
                          lambda: do_agree(base, [], [right, change])):
                with self.assertRaises(BadChange) as caught:
                    asked()
                self.assertEqual(caught.exception.word, word)


if __name__ == "__main__":
    unittest.main()
