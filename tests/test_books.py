"""[5], [6]: books and changes, fact by fact and day by day."""

import unittest

from helpers import DAYS, LAST, NO_DAYS, NO_NAMES, NO_SPANS, RELATIONS, dice, row_of, some_book_days, some_changes
from twicedated.books import Book, empty_book
from twicedated.errors import BadChange, BadFact, BadRelations, BadSpans

FACTS = [("lives", ("ann", "rome")), ("lives", ("ann", "oslo")), ("lives", ("bob", "rome")),
         ("pays", ("ann",)), ("pays", ("bob",))]


def book_of(days):
    """The book of a dict from facts to sets of days."""
    return Book(RELATIONS, {fact: row_of(days[fact]) for fact in days})


def rows_of(days):
    """What the rows of a book of such a dict must be."""
    return {fact: row_of(days[fact]) for fact in sorted(days) if days[fact]}


class BookTest(unittest.TestCase):
    def look_at(self, book, days):
        self.assertEqual(book.rows, rows_of(days))
        self.assertEqual(list(book.rows), sorted(book.rows))
        self.assertEqual(list(book.relations.items()), sorted(RELATIONS.items()))
        self.assertEqual(book, book_of(days))

    def test_one_form(self):
        spans = [(8, 9), (0, 4), (5, 5)]
        rows = {FACTS[3]: spans, FACTS[0]: [], FACTS[1]: ((3, 3),)}
        relations = {"pays": 1, "lives": 2}
        book = Book(relations, rows)
        self.assertEqual(list(book.rows.items()), [(FACTS[1], ((3, 3),)), (FACTS[3], ((0, 5), (8, 9)))])
        self.assertEqual(list(book.relations.items()), [("lives", 2), ("pays", 1)])
        self.assertEqual(rows, {FACTS[3]: [(8, 9), (0, 4), (5, 5)], FACTS[0]: [], FACTS[1]: ((3, 3),)})
        self.assertEqual(list(relations), ["pays", "lives"])
        spans.append((20, 30))
        rows[FACTS[4]] = ((0, 1),)
        relations["x"] = 1
        self.assertEqual(list(book.rows.items()), [(FACTS[1], ((3, 3),)), (FACTS[3], ((0, 5), (8, 9)))])
        self.assertEqual(book.relations, {"lives": 2, "pays": 1})

    def test_relations_of_one_and_four_names(self):
        one, four = ("a", ("n",)), ("d", ("n", "o", "p", "abcdefgh"))
        book = Book({"d": 4, "a": 1}, {four: [(0, LAST)], one: [(LAST, LAST)]})
        self.assertEqual(book.facts("a"), [(("n",), ((LAST, LAST),))])
        self.assertEqual(book.facts("d"), [(("n", "o", "p", "abcdefgh"), ((0, LAST),))])
        self.assertEqual(book.points(), LAST + 2)
        self.assertIs(book.has("d", four[1], 0), True)

    def test_bad_relations_first(self):
        for relations, name in (({"lives": 2, "Pays": 1, "x": 0}, "Pays"), ({"b": True, "A": 1}, "b"), ({"b": 5}, "b"),
                                ({3: 1}, 3)):
            with self.assertRaises(BadRelations) as caught:
                Book(relations, {"no fact": [None]})
            self.assertEqual(caught.exception.name, name)
            with self.assertRaises(BadRelations):
                empty_book(relations)

    def test_bad_fact_then(self):
        for fact in ("lives", ("lives",), ("lives", ("ann",)), ("lives", ("ann", "rome", "x")), ("owns", ("ann", "rome")),
                     ("lives", ("Ann", "rome")), ("lives", "ab"), None, 5, True, (5, ("ann", "rome")),
                     ("lives", ("ann", 5)), ("lives", ("ann", "rome"), 5), (("lives",), ("ann", "rome"))):
            with self.assertRaises(BadFact) as caught:
                Book(RELATIONS, {FACTS[1]: [None], fact: [], "other": []})
            self.assertEqual(caught.exception.fact, fact)

    def test_bad_spans_then(self):
        for thing in NO_SPANS:
            with self.assertRaises(BadSpans) as caught:
                Book(RELATIONS, {FACTS[4]: [thing], FACTS[0]: [(5, 6), thing], FACTS[3]: [(0, 1), (2, 3), thing]})
            # The facts ascend: this one of "lives" is ahead, whatever their order in the dict.
            self.assertEqual(caught.exception.number, 1)

    def test_equal(self):
        book = Book(RELATIONS, {FACTS[0]: [(0, 4), (5, 9)]})
        self.assertEqual(book, Book({"pays": 1, "lives": 2}, {FACTS[3]: [], FACTS[0]: ((0, 9),)}))
        self.assertNotEqual(book, Book(RELATIONS, {FACTS[0]: [(0, 8)]}))
        self.assertNotEqual(book, Book(RELATIONS, {FACTS[1]: [(0, 9)]}))
        self.assertNotEqual(book, Book({"lives": 2}, {FACTS[0]: [(0, 9)]}))
        for thing in (None, 5, "book", {}, book.rows, (book.relations, book.rows), object()):
            self.assertIs(book == thing, False)
            self.assertIs(book != thing, True)

    def test_empty(self):
        book = empty_book(RELATIONS)
        self.assertEqual((book.rows, book.points(), book.facts("lives"), book.facts_on("lives", 0)), ({}, 0, [], []))
        self.assertEqual(book, Book(RELATIONS, {FACTS[0]: ()}))
        self.assertEqual(empty_book({}).relations, {})

    def test_asked(self):
        for number in range(60):
            days = some_book_days(dice(number), FACTS)
            book = book_of(days)
            self.look_at(book, days)
            self.assertEqual(book.points(), sum(len(days[fact]) for fact in days))
            for relation, names in FACTS:
                here = days.get((relation, names), set())
                self.assertEqual(book.spans_of(relation, names), row_of(here))
                self.assertEqual([book.has(relation, names, day) for day in DAYS], [day in here for day in DAYS])
            for relation in RELATIONS:
                told = sorted(names for word, names in days if word == relation and days[word, names])
                self.assertEqual(book.facts(relation), [(names, row_of(days[relation, names])) for names in told])
                for day in DAYS:
                    self.assertEqual(book.facts_on(relation, day),
                                     [names for names in told if day in days[relation, names]])

    def test_two_books(self):
        for number in range(150):
            chance = dice(number)
            mine, yours = some_book_days(chance, FACTS), some_book_days(chance, FACTS)
            if number % 3 == 0:
                yours = {fact: yours.get(fact, set()) | mine.get(fact, set()) for fact in FACTS}
            one, other = book_of(mine), book_of(yours)
            both = {fact: mine.get(fact, set()) | yours.get(fact, set()) for fact in FACTS}
            left = {fact: mine[fact] - yours.get(fact, set()) for fact in mine}
            self.look_at(one.joined(other), both)
            self.look_at(one.without(other), left)
            self.assertIs(one.is_within(other), not any(left.values()))
            self.look_at(one, mine)
            self.look_at(other, yours)

    def test_within(self):
        small, great = Book(RELATIONS, {FACTS[0]: [(3, 4)]}), Book(RELATIONS, {FACTS[0]: [(3, 5)]})
        empty = empty_book(RELATIONS)
        self.assertEqual([small.is_within(great), great.is_within(small), small.is_within(small)], [True, False, True])
        self.assertEqual([empty.is_within(small), small.is_within(empty), empty.is_within(empty)], [True, False, True])

    def test_what_is_told_is_no_handle(self):
        book = Book(RELATIONS, {FACTS[0]: [(3, 4)]})
        same = book.joined(empty_book(RELATIONS))
        same.rows[FACTS[1]] = ((0, 0),)
        book.facts("lives").append(1)
        book.facts_on("lives", 3).append(1)
        self.assertEqual(book, Book(RELATIONS, {FACTS[0]: [(3, 4)]}))


class ChangeTest(unittest.TestCase):
    def test_day_by_day(self):
        for number in range(60):
            chance = dice(number)
            days = some_book_days(chance, FACTS)
            book = book_of(days)
            for change in some_changes(chance, FACTS, 12):
                word, relation, names, first, last = change
                here = {day for day in DAYS if first <= day <= last}
                if last - first > 100:
                    continue
                ahead, rows = book, dict(book.rows)
                book = book.changed(change)
                self.assertEqual(ahead.rows, rows)
                was = days.get((relation, names), set())
                days[relation, names] = was | here if word == "set" else was - here
                self.assertEqual(book, book_of(days))
                self.assertEqual(list(book.rows), sorted(book.rows))

    def test_edges(self):
        book = empty_book({"pays": 1}).changed(("set", "pays", ("ann",), 0, LAST))
        self.assertEqual(book.rows, {("pays", ("ann",)): ((0, LAST),)})
        middle = book.changed(("clear", "pays", ("ann",), 1, LAST - 1))
        self.assertEqual(middle.rows, {("pays", ("ann",)): ((0, 0), (LAST, LAST))})
        self.assertEqual(middle.changed(("set", "pays", ("ann",), 1, LAST - 1)), book)
        self.assertEqual(book.changed(("clear", "pays", ("ann",), 0, LAST)).rows, {})
        self.assertEqual(book.changed(("clear", "pays", ("bob",), 0, 5)), book)
        self.assertEqual(book.changed(("set", "pays", ("ann",), 7, 7)), book)

    def fault(self, change):
        with self.assertRaises(BadChange) as caught:
            empty_book(RELATIONS).changed(change)
        return caught.exception.word

    def test_form(self):
        for change in (None, 5, "set", (), ("set",), ("set", "pays", ("ann",), 0), ("set", "pays", ("ann",), 0, 1, 2),
                       ["set", "pays", ("ann",), 0, 1], ["x"], {}):
            self.assertEqual(self.fault(change), "form")

    def test_word(self):
        for word in ("", "Set", "SET", "cleared", None, 5, True, ("set",), ["set"], {}, b"set"):
            self.assertEqual(self.fault((word, "owns", (), -1, -2)), "word")

    def test_relation(self):
        for relation in ("owns", "Pays", None, 5, True, ("pays",), ["pays"], {}, *NO_NAMES):
            self.assertEqual(self.fault(("set", relation, (), -1, -2)), "relation")

    def test_names(self):
        for names in ((), ("ann", "bob"), ["ann"], "a", "ann", None, 5, {}, {"ann"}, *[(thing,) for thing in NO_NAMES]):
            self.assertEqual(self.fault(("clear", "pays", names, -1, -2)), "names")
        self.assertEqual(self.fault(("clear", "lives", ("ann",), 0, 1)), "names")

    def test_days(self):
        for thing in NO_DAYS:
            self.assertEqual(self.fault(("set", "pays", ("ann",), thing, 5)), "days")
            self.assertEqual(self.fault(("set", "pays", ("ann",), 0, thing)), "days")
            self.assertEqual(self.fault(("set", "pays", ("ann",), thing, thing)), "days")
        self.assertEqual(self.fault(("clear", "pays", ("ann",), 5, 4)), "days")


if __name__ == "__main__":
    unittest.main()
