"""[11]: the fewest changes, against a search through all books step by step; and the judge of anybody's."""

import itertools
import unittest

from helpers import LAST, NO_INTEGERS, RELATIONS, dice, row_of, some_book_days, some_days
from twicedated.books import Book, empty_book
from twicedated.fewest import fewest_between, is_fewest
from twicedated.spans import breaks

ANN = ("pays", ("ann",))
BOB = ("pays", ("bob",))
ROME = ("lives", ("ann", "rome"))
SEVERAL = [BOB, ROME, ANN, ("lives", ("bob", "rome"))]


def book_of(days, fact=ANN):
    """The book in which one fact is so on some days."""
    return Book(RELATIONS, {fact: row_of(days)})


def behind(book, changes):
    """The book behind changes."""
    for change in changes:
        book = book.changed(change)
    return book


def steps_from(start, many):
    """The fewest changes from one set of days, as bits, to each other one: step by step through all of them."""
    masks = [(1 << last + 1) - (1 << first) for first in range(many) for last in range(first, many)]
    steps, edge = {start: 0}, [start]
    while edge:
        ahead, edge = edge, []
        for days in ahead:
            for mask in masks:
                for other in (days | mask, days & ~mask):
                    if other not in steps:
                        steps[other] = steps[days] + 1
                        edge.append(other)
    return steps


def bits(number, days):
    """The days that the bits of a number tell."""
    return {day for k, day in enumerate(days) if number >> k & 1}


def segments(was, now):
    """For each segment of two rows whether they have it."""
    ends = sorted({0, LAST + 1, *breaks(was), *breaks(now)})
    return [tuple(any(a <= first <= b for a, b in row) for row in (was, now)) for first in ends[:-1]]


def are_heights(heights, parts):
    """Whether these integers are heights, by looking at all pairs of segments."""
    if len(heights) != len(parts) + 1 or heights[0] != 0 or not all(0 <= h <= len(parts) for h in heights):
        return False
    for i in range(len(parts)):
        if parts[i][0] == parts[i][1] and heights[i + 1] > heights[i]:
            return False
        for j in range(i, len(parts)):
            runs = len(list(itertools.groupby(parts[i:j + 1], key=lambda part: part[1])))
            if heights[j + 1] - heights[i] > runs // 2 + 1:
                return False
    return True


class FewestTest(unittest.TestCase):
    def look_at(self, one, other):
        rows = dict(one.rows), dict(other.rows)
        told = fewest_between(one, other)
        self.assertEqual(fewest_between(one, other), told)
        self.assertEqual((one.rows, other.rows), rows)
        changes, heights = told
        self.assertIsInstance(told, tuple)
        self.assertIsInstance(changes, tuple)
        self.assertEqual(behind(one, changes), other)
        facts = [fact for fact in sorted({*one.rows, *other.rows}) if one.spans_of(*fact) != other.spans_of(*fact)]
        self.assertEqual(list(heights), facts)
        for fact in facts:
            self.assertTrue(are_heights(heights[fact], segments(one.spans_of(*fact), other.spans_of(*fact))))
            self.assertIsInstance(heights[fact], tuple)
        self.assertEqual(sum(heights[fact][-1] for fact in facts), len(changes))
        self.assertIs(is_fewest(one, other, changes, heights), True)
        return len(changes)

    def test_all_books_of_six_days(self):
        for start in range(64):
            steps = steps_from(start, 6)
            for end in range(64):
                days = range(6) if (start + end) % 2 else range(LAST - 5, LAST + 1)
                many = self.look_at(book_of(bits(start, days)), book_of(bits(end, days)))
                self.assertEqual(many, steps[end])

    def test_some_books_of_ten_days(self):
        for start in (0, 0b1010101010, 0b1100110011, 0b1111111111, 0b1011011101):
            steps = steps_from(start, 10)
            for end in range(0, 1024, 5):
                many = self.look_at(book_of(bits(start, range(3, 13))), book_of(bits(end, range(3, 13))))
                self.assertEqual(many, steps[end])

    def test_several_facts(self):
        for number in range(60):
            chance = dice(number)
            one, other = [Book(RELATIONS, {fact: row_of(days) for fact, days in some_book_days(chance, SEVERAL).items()})
                          for _ in range(2)]
            many = sum(self.look_at(book_of(one_days, fact), book_of(other_days, fact)) for fact in SEVERAL
                       for one_days, other_days in [[{day for a, b in book.spans_of(*fact) for day in range(a, b + 1)}
                                                     for book in (one, other)]])
            self.assertEqual(self.look_at(one, other), many)

    def test_long_spans_and_ends(self):
        every = Book(RELATIONS, {ANN: [(0, LAST)]})
        none = empty_book(RELATIONS)
        self.assertEqual(fewest_between(every, none), ((("clear", "pays", ("ann",), 0, LAST),), {ANN: (0, 1)}))
        self.assertEqual(fewest_between(none, every), ((("set", "pays", ("ann",), 0, LAST),), {ANN: (0, 1)}))
        self.assertEqual([self.look_at(every, none), self.look_at(none, every)], [1, 1])
        holes = Book(RELATIONS, {ANN: [(0, 9), (20, 29), (40, LAST)]})
        self.assertEqual(self.look_at(every, holes), 2)
        self.assertEqual(self.look_at(holes, every), 1)
        self.assertEqual(self.look_at(none, holes), 3)

    def test_equal_books(self):
        book = Book(RELATIONS, {ANN: [(0, 4)], ROME: [(5, LAST)]})
        self.assertEqual(fewest_between(book, book), ((), {}))
        self.assertEqual(fewest_between(empty_book(RELATIONS), empty_book(RELATIONS)), ((), {}))
        self.assertEqual(fewest_between(empty_book({}), empty_book({})), ((), {}))
        self.assertIs(is_fewest(book, book, (), {}), True)

    def test_only_unlike_facts(self):
        one = Book(RELATIONS, {ANN: [(0, 4)], ROME: [(5, 9)]})
        other = Book(RELATIONS, {ANN: [(0, 4)], BOB: [(5, 9)]})
        changes, heights = fewest_between(one, other)
        self.assertEqual(sorted(change[:3] for change in changes), [("clear", *ROME), ("set", *BOB)])
        self.assertEqual(list(heights), [ROME, BOB])

    def test_many_spans(self):
        row = [(day, day) for day in range(0, 6000, 2)]
        one, other = Book(RELATIONS, {ANN: row}), Book(RELATIONS, {ANN: [(day + 1, day + 1) for day, _ in row]})
        for start, end in ((one, other), (empty_book(RELATIONS), one), (one, empty_book(RELATIONS))):
            changes, heights = fewest_between(start, end)
            self.assertEqual(behind(start, changes[:3]).relations, end.relations)
            self.assertIs(is_fewest(start, end, changes, heights), True)


class JudgeTest(unittest.TestCase):
    def setUp(self):
        self.one = Book(RELATIONS, {ANN: [(3, 4)], ROME: [(0, 9)]})
        self.other = Book(RELATIONS, {ANN: [(3, 4), (6, 7), (9, 9)], ROME: [(0, 2), (6, LAST)]})
        self.changes, self.heights = fewest_between(self.one, self.other)

    def judge(self, changes, heights):
        return is_fewest(self.one, self.other, changes, heights)

    def test_of_facts_in_any_order(self):
        for order in itertools.permutations(self.heights):
            self.assertIs(self.judge(self.changes, {fact: self.heights[fact] for fact in order}), True)

    def test_of_facts_that_are_alike(self):
        book = Book(RELATIONS, {ANN: [(0, 4)], ROME: [(5, 9)]})
        self.assertIs(is_fewest(book, book, (), {ANN: (0, 0, 0)[:3], ROME: (0, 0, 0, 0), BOB: (0, 0)}), True)
        self.assertIs(is_fewest(book, book, (), {ROME: (0, 0, 0)}), False)
        self.assertIs(is_fewest(book, book, (), {BOB: (0, 1)}), False)
        self.assertIs(is_fewest(book, book, (), {BOB: (0,)}), False)
        self.assertIs(is_fewest(book, book, (), {BOB: ()}), False)
        self.assertIs(is_fewest(book, book, (("set", *ANN, 0, 4),), {ANN: (0, 0, 0)}), False)
        self.assertIs(self.judge(self.changes, {**self.heights, BOB: (0, 0)}), True)
        self.assertIs(self.judge(self.changes, {**self.heights, BOB: (0, 1)}), False)

    def test_lower_or_higher(self):
        for fact, heights in self.heights.items():
            rest = {other: self.heights[other] for other in self.heights if other != fact}
            self.assertIs(self.judge(self.changes, rest), False)
            for place in range(len(heights)):
                for height in range(-1, len(heights) + 1):
                    told = heights[:place] + (height,) + heights[place + 1:]
                    parts = segments(self.one.spans_of(*fact), self.other.spans_of(*fact))
                    so = are_heights(told, parts) and told[-1] >= heights[-1]
                    self.assertIs(self.judge(self.changes, {**self.heights, fact: told}), so)

    def test_any_heights(self):
        kept = 0
        for number in range(3000):
            chance = dice(number)
            one, other = book_of(some_days(chance, range(5))), book_of(some_days(chance, range(5)))
            parts = segments(one.spans_of(*ANN), other.spans_of(*ANN))
            changes, heights = fewest_between(one, other)
            told = list(heights.get(ANN, (0,) * (len(parts) + 1)))
            for _ in range(number % 3):
                told[chance.randrange(len(told))] += chance.choice([-1, -1, 1])
            so = are_heights(told, parts) and told[-1] >= len(changes)
            kept += so
            self.assertIs(is_fewest(one, other, changes, {ANN: tuple(told)}), so)
        self.assertTrue(1100 < kept < 2700)

    def test_sums_may_be_more_nowhere_else(self):
        self.assertIs(self.judge(self.changes + (("set", *ANN, 3, 4),), self.heights), False)
        self.assertIs(self.judge(self.changes[:-1], self.heights), False)
        self.assertIs(self.judge((), self.heights), False)
        self.assertIs(is_fewest(self.one, self.one, (), self.heights), False)

    def test_no_changes(self):
        good = self.changes[0]
        wrong = [None, 5, (), good[:4], good + (1,), list(good), ("Set", *good[1:]), ("set", "owns", *good[2:]),
                 (good[0], good[1], list(good[2]), *good[3:]), (*good[:3], good[4], good[3]), (*good[:3], True, good[4]),
                 (["set"], *good[1:]), ("set", ["pays"], *good[2:]), (*good[:3], 0, LAST + 1), (*good[:3], 0.0, 1)]
        for thing in wrong:
            self.assertIs(self.judge((thing, *self.changes[1:]), self.heights), False)
        for thing in (None, 5, "changes", list(self.changes), {}, set(self.changes), iter(self.changes), object()):
            self.assertIs(self.judge(thing, self.heights), False)

    def test_no_heights(self):
        for thing in (None, 5, "heights", [], (), set(), list(self.heights.items()), object()):
            self.assertIs(self.judge(self.changes, thing), False)
            self.assertIs(is_fewest(self.one, self.one, (), thing), False)
        for fact in (None, 5, "pays", (), ("pays",), ("pays", "ann"), ("owns", ("ann",)), ("pays", ("ann", "bob")),
                     ("pays", ("Ann",)), (5, ("ann",)), frozenset(), (("pays",), ("ann",)), True):
            self.assertIs(self.judge(self.changes, {**self.heights, fact: (0, 0)}), False)
        for fact in self.heights:
            for told in (None, 5, "0", list(self.heights[fact]), {}, self.heights[fact][1:], self.heights[fact] + (0,),
                         (), (0,), object()):
                self.assertIs(self.judge(self.changes, {**self.heights, fact: told}), False)
            for thing in NO_INTEGERS:
                for place in range(len(self.heights[fact])):
                    told = self.heights[fact][:place] + (thing,) + self.heights[fact][place + 1:]
                    self.assertIs(self.judge(self.changes, {**self.heights, fact: told}), False)

    def test_no_books(self):
        for thing in (None, 5, {}, self.one.rows, object()):
            self.assertIs(is_fewest(thing, self.other, self.changes, self.heights), False)
            self.assertIs(is_fewest(self.one, thing, self.changes, self.heights), False)

    def test_handed_in_stays(self):
        heights = {fact: self.heights[fact] for fact in self.heights}
        self.judge(self.changes, heights)
        self.assertEqual(list(heights.items()), list(self.heights.items()))


if __name__ == "__main__":
    unittest.main()
