"""[4]: spans and rows of spans, against sets of days."""

import unittest

from helpers import DAYS, LAST, NO_SPANS, days_of, dice, is_row, row_of, some_days
from twicedated.errors import BadSpans
from twicedated.spans import (breaks, has, how_many, is_part, is_span, less, meet, normal, others, union, unlike)

ALL = ((0, LAST),)


class SpansTest(unittest.TestCase):
    def test_spans(self):
        for span in ((0, 0), (0, LAST), (LAST, LAST), (3, 4), (4, 4)):
            self.assertIs(is_span(span), True, span)

    def test_no_spans(self):
        for thing in NO_SPANS:
            self.assertIs(is_span(thing), False, thing)


class NormalTest(unittest.TestCase):
    def test_touching_and_one_apart(self):
        self.assertEqual(normal(()), ())
        self.assertEqual(normal([]), ())
        self.assertEqual(normal([(0, 4), (5, 9)]), ((0, 9),))
        self.assertEqual(normal([(0, 4), (6, 9)]), ((0, 4), (6, 9)))
        self.assertEqual(normal([(6, 9), (0, 4)]), ((0, 4), (6, 9)))
        self.assertEqual(normal([(0, 9), (2, 3), (9, 12), (0, 9)]), ((0, 12),))
        self.assertEqual(normal([(5, LAST), (0, 4)]), ALL)
        self.assertEqual(normal(((LAST, LAST), (0, 0))), ((0, 0), (LAST, LAST)))

    def test_one_form_for_each_set(self):
        for number in range(300):
            chance = dice(number)
            spans = [tuple(sorted([chance.choice(DAYS[:12]), chance.choice(DAYS[:12])])) for _ in range(number % 7)]
            self.assertEqual(normal(spans), row_of(days_of(spans)))
            self.assertEqual(normal(tuple(spans)), row_of(days_of(spans)))

    def test_first_bad_span(self):
        for thing in NO_SPANS:
            for spans in ([(5, 6), (0, 1), thing], ((5, 6), (0, 1), thing, (9, 8), None)):
                with self.assertRaises(BadSpans) as caught:
                    normal(spans)
                self.assertEqual(caught.exception.number, 2)
        with self.assertRaises(BadSpans) as caught:
            normal([None])
        self.assertEqual(caught.exception.number, 0)

    def test_handed_in_stays(self):
        spans = [(7, 9), (0, 4), (5, 5)]
        told = normal(spans)
        self.assertEqual(spans, [(7, 9), (0, 4), (5, 5)])
        spans.append((20, 30))
        self.assertEqual(told, ((0, 5), (7, 9)))


class RowsTest(unittest.TestCase):
    def look_at_two(self, mine, yours):
        one, other = row_of(mine), row_of(yours)
        for row, days in ((union(one, other), mine | yours), (meet(one, other), mine & yours),
                          (less(one, other), mine - yours), (unlike(one, other), mine ^ yours)):
            self.assertEqual(row, row_of(days))
            self.assertIsInstance(row, tuple)
        self.assertEqual(union(list(one), list(other)), union(one, other))
        self.assertEqual(meet(list(one), list(other)), meet(one, other))
        self.assertEqual(less(list(one), list(other)), less(one, other))
        self.assertEqual(unlike(list(one), list(other)), unlike(one, other))
        self.assertIs(is_part(one, other), mine <= yours)
        self.assertIs(is_part(meet(one, other), other), True)
        self.assertIs(is_part(list(one), list(union(one, other))), True)

    def test_two_rows(self):
        for number in range(400):
            chance = dice(number)
            self.look_at_two(some_days(chance), some_days(chance))

    def test_each_two_of_few_days(self):
        for one in range(32):
            for other in range(32):
                self.look_at_two({day for day in range(5) if one >> day & 1},
                                 {day for day in range(5) if other >> day & 1})

    def test_one_row(self):
        for number in range(300):
            days = some_days(dice(number))
            row = row_of(days)
            left = others(row)
            self.assertTrue(is_row(left))
            self.assertEqual([has(left, day) for day in DAYS], [day not in days for day in DAYS])
            self.assertEqual(how_many(left), LAST + 1 - len(days))
            self.assertEqual(others(left), row)
            self.assertEqual(others(list(row)), left)
            self.assertEqual([has(row, day) for day in DAYS], [day in days for day in DAYS])
            self.assertEqual(how_many(row), len(days))
            self.assertEqual(breaks(row), [day for day in range(13) if (day in days) != (day - 1 in days)]
                             + [day for day in range(LAST - 11, LAST + 2) if (day in days) != (day - 1 in days)])
            self.assertEqual(breaks(list(row)), breaks(row))
            self.assertIs(has(list(row), 5), 5 in days)
            self.assertEqual(how_many(list(row)), len(days))

    def test_without_days_and_of_all(self):
        self.assertEqual(others(()), ALL)
        self.assertEqual(others(ALL), ())
        self.assertEqual((how_many(()), how_many(ALL)), (0, LAST + 1))
        self.assertEqual((breaks(()), breaks(ALL)), ([], [0, LAST + 1]))
        self.assertEqual((union((), ()), union((), ALL), union(ALL, ((3, 4),))), ((), ALL, ALL))
        self.assertEqual((meet((), ALL), meet(ALL, ALL), meet(ALL, ((3, 4),))), ((), ALL, ((3, 4),)))
        self.assertEqual((less(ALL, ((3, 4),)), less((), ALL)), (((0, 2), (5, LAST)), ()))
        self.assertEqual((unlike(ALL, ALL), unlike(ALL, ()), unlike((), ALL)), ((), ALL, ALL))
        self.assertEqual((is_part((), ()), is_part((), ALL), is_part(ALL, ()), is_part(ALL, ALL)),
                         (True, True, False, True))
        self.assertEqual((has((), 0), has(ALL, 0), has(ALL, LAST)), (False, True, True))
        self.assertEqual(others(((0, 0), (LAST, LAST))), ((1, LAST - 1),))

    def test_touching_in_what_is_made(self):
        self.assertEqual(union(((0, 4),), ((5, 9),)), ((0, 9),))
        self.assertEqual(union(((0, 4),), ((6, 9),)), ((0, 4), (6, 9)))
        self.assertEqual(unlike(((0, 5),), ((3, 9),)), ((0, 2), (6, 9)))
        self.assertEqual(unlike(((0, 4),), ((5, 9),)), ((0, 9),))

    def test_has_many_spans(self):
        row = tuple((day, day + 1) for day in range(0, 3000, 3))
        self.assertEqual([day for day in range(3010) if has(row, day)], [day for day in range(3000) if day % 3 < 2])


if __name__ == "__main__":
    unittest.main()
