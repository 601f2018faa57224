"""[13]: the fewest elder facts on days to clear, against trying all lots of them; and the judge of anybody's."""

import itertools
import unittest

from asking import any_, day, days_by_fact, matches_of, name, some_clause, when
from helpers import LAST, NO_DAYS, NO_NAMES, dice, row_of
from twicedated.answering import is_legal
from twicedated.books import Book, empty_book
from twicedated.errors import BadChange, TooMany
from twicedated.mends import is_mend, mend, mended
from twicedated.questions import Clause

RELATIONS = {"lives": 2, "pays": 1}
FACTS = [("lives", ("ann", "rome")), ("lives", ("bob", "rome")), ("lives", ("ann", "oslo")), ("pays", ("ann",)),
         ("pays", ("bob",))]
DAYS = [0, 1, 2, LAST - 1, LAST]
NEVER = 10 ** 9
P, Q, T, U = any_("p"), any_("q"), when("t"), when("u")
ONE_HOME = Clause((("lives", (P, Q), T), ("lives", (P, any_("r")), T)), (("unlike", Q, any_("r")),))
PAID_ONCE = Clause((("pays", (P,), T), ("pays", (P,), U)), (("less", T, U),))
NO_GUESTS = Clause((("lives", (P, Q), T), ("lives", (any_("r"), Q), U)), (("unlike", P, any_("r")), ("most", T, U)))
PAID_LATER = Clause((("pays", (P,), T), ("lives", (Q, any_("r")), U)), (("less", T, U),))
WRONG = {"form": None, "word": ("put", "x", (), 1, 0), "relation": ("set", "x", (), 1, 0),
         "names": ("set", "pays", (), 1, 0), "days": ("set", "pays", ("ann",), 1, 0)}


def known_in(book):
    """The points of a book of few days."""
    return {(*fact, number) for fact, days in days_by_fact(book, DAYS).items() for number in days}


def lots_of(book, rules, change):
    """The lots of elder points of all matches behind a change, by trying all."""
    new = {(change[1], change[2], number) for number in DAYS if change[3] <= number <= change[4]}
    known = days_by_fact(book.changed(change), DAYS)
    found = {tuple(sorted(set(points) - new)) for rule in rules for _, points in matches_of(rule, known, 0)}
    return sorted(found)


def some_case(number):
    """A book that breaks no rule, rules, and a change that sets."""
    chance = dice(number)
    rules = tuple(some_clause(chance, RELATIONS, [0, 2, LAST], has_now=False) for _ in range(chance.choice([1, 1, 2, 3])))
    if number % 3 == 0:
        rules = tuple(chance.sample([ONE_HOME, NO_GUESTS, PAID_LATER], chance.choice([1, 2, 2])))
    book = empty_book(RELATIONS)
    for _ in range(9):
        fact, last = chance.choice(FACTS), chance.choice(DAYS)
        more = book.changed(("set", *fact, last, last))
        book = more if is_legal(more, rules) else book
    first, last = chance.choice([(0, 0), (0, 1), (1, 2), (LAST - 1, LAST), (LAST, LAST), (2, 2)])
    return book, rules, ("set", *chance.choice(FACTS), first, last)


def is_tree(lots, tree, more, taken):
    """Whether it is a tree as the document says."""
    number, branches = tree
    if set(lots[number]) & taken:
        return False
    if more == 0:
        return branches == ()
    return {thing for thing, _ in branches} == set(lots[number]) and all(
        is_tree(lots, smaller, more - 1, taken | {thing}) for thing, smaller in branches)


class MendTest(unittest.TestCase):
    def look_at(self, book, rules, change):
        rows = dict(book.rows)
        lots = lots_of(book, rules, change)
        told = mend(book, rules, change, NEVER)
        self.assertEqual(mend(book, list(rules), change, NEVER), told)
        self.assertEqual(book.rows, rows)
        if () in lots:
            self.assertIsNone(told)
            self.assertIs(is_mend(book, rules, change, (), None, NEVER), False)
            return None
        points, tree = told
        self.assertEqual(list(points), sorted(set(points)))
        self.assertLessEqual(set(points), known_in(book))
        self.assertIs(is_mend(book, rules, change, points, tree, NEVER), True)
        self.assertIs(is_mend(book, rules, change, points[::-1], tree, NEVER), True)
        self.assertTrue(is_tree(lots, tree, len(points) - 1, set()) if points else tree is None)
        behind = mended(book, change, points)
        self.assertEqual(known_in(behind), known_in(book.without(self.book_of(points)).changed(change)))
        self.assertIs(is_legal(behind, rules), True)
        self.assert_no_fewer(book, rules, change, len(points))
        return points

    def book_of(self, points):
        return Book(RELATIONS, {point[:2]: row_of([d for *fact, d in points if tuple(fact) == point[:2]]) for point in points})

    def assert_no_fewer(self, book, rules, change, many):
        elder = sorted(known_in(book))
        for fewer in itertools.combinations(elder, many - 1) if many else ():
            self.assertIs(is_legal(book.without(self.book_of(fewer)).changed(change), rules), False)

    def test_against_trying_all(self):
        many = {}
        for number in range(400):
            points = self.look_at(*some_case(number))
            key = None if points is None else len(points)
            many[key] = many.get(key, 0) + 1
        self.assertTrue(all(many.get(key, 0) > 2 for key in (None, 0, 1, 2, 3)), many)

    def test_who_lives_in_one_place(self):
        book = Book(RELATIONS, {FACTS[0]: [(0, 9)], FACTS[1]: [(0, 9)]})
        change = ("set", "lives", ("ann", "oslo"), 8, 12)
        points, tree = mend(book, (ONE_HOME,), change, NEVER)
        self.assertEqual(points, (("lives", ("ann", "rome"), 8), ("lives", ("ann", "rome"), 9)))
        self.assertIs(is_mend(book, (ONE_HOME,), change, points, tree, NEVER), True)
        self.assertEqual(mended(book, change, points).rows, {FACTS[0]: ((0, 7),), FACTS[1]: ((0, 9),), FACTS[2]: ((8, 12),)})

    def test_one_point_for_many(self):
        late = Clause((("pays", (P,), T), ("lives", (Q, any_("r")), U)), (("less", T, U),))
        book = Book(RELATIONS, {("lives", (f"p{k}", "rome")): [(5, 5)] for k in range(4)})
        points, tree = mend(book, (late,), ("set", "pays", ("ann",), 0, 5), NEVER)
        self.assertEqual(len(points), 4)
        points, _ = mend(Book(RELATIONS, {("pays", ("ann",)): [(3, 3)]}), (late,), ("set", "lives", ("ann", "rome"), 2, 9), NEVER)
        self.assertEqual(points, (("pays", ("ann",), 3),))
        triple = Clause((("pays", (P,), T), ("pays", (Q,), T), ("lives", (P, Q), U)), (("unlike", P, Q),))
        book = Book(RELATIONS, {("pays", ("ann",)): [(0, 9)], ("pays", ("bob",)): [(0, 9)]})
        self.assertEqual(len(mend(book, (triple,), ("set", "lives", ("ann", "bob"), 7, 7), NEVER)[0]), 10)

    def test_no_match(self):
        book = Book(RELATIONS, {FACTS[0]: [(0, 9)]})
        for rules in ((), (ONE_HOME,), (ONE_HOME, PAID_ONCE)):
            self.assertEqual(mend(book, rules, ("set", "pays", ("ann",), 3, 3), NEVER), ((), None))
            self.assertIs(is_mend(book, rules, ("set", "pays", ("ann",), 3, 3), (), None, NEVER), True)
            self.assertIs(is_mend(book, rules, ("set", "pays", ("ann",), 3, 3), (), (0, ()), NEVER), False)
        self.assertEqual(mended(book, ("set", "pays", ("ann",), 3, 3), ()), book.changed(("set", "pays", ("ann",), 3, 3)))

    def test_what_is_set_alone(self):
        book = Book(RELATIONS, {FACTS[3]: [(5, 5)]})
        self.assertIsNone(mend(book, (PAID_ONCE,), ("set", "pays", ("ann",), 7, 8), NEVER))
        # What is set again is no elder point.
        self.assertIsNone(mend(book, (PAID_ONCE,), ("set", "pays", ("ann",), 5, 6), NEVER))
        self.assertEqual(mend(book, (PAID_ONCE,), ("set", "pays", ("ann",), 5, 5), NEVER), ((), None))
        self.assertEqual(mend(book, (PAID_ONCE,), ("set", "pays", ("ann",), 7, 7), NEVER), ((("pays", ("ann",), 5),), (0, ())))
        for points, tree in (((), None), ((("pays", ("ann",), 5),), (0, ())), ((), (0, ())), (None, None)):
            self.assertIs(is_mend(book, (PAID_ONCE,), ("set", "pays", ("ann",), 7, 8), points, tree, NEVER), False)

    def test_bad_change(self):
        book = empty_book(RELATIONS)
        for word, change in WRONG.items():
            for most in (0, 1, NEVER):
                for asked in (lambda: mend(book, (ONE_HOME,), change, most),
                              lambda: is_mend(book, (ONE_HOME,), change, None, None, most)):
                    with self.assertRaises(BadChange) as caught:
                        asked()
                    self.assertEqual(caught.exception.word, word)
            with self.assertRaises(BadChange) as caught:
                mended(book, change, ())
            self.assertEqual(caught.exception.word, word)

    def test_most(self):
        book, change = empty_book(RELATIONS), ("set", "pays", ("ann",), 7, 8)
        for rules in ((), (ONE_HOME,), (PAID_ONCE,)):
            for asked in (lambda: mend(book, rules, change, 0), lambda: is_mend(book, rules, change, (), None, 0)):
                with self.assertRaises(TooMany) as caught:
                    asked()
                self.assertEqual(caught.exception.most, 0)
        for number in range(60):
            book, rules, change = some_case(number)
            told = mend(book, rules, change, NEVER)
            for most in (1, 2, 5, 20, 100):
                try:
                    self.assertEqual(mend(book, rules, change, most), told)
                except TooMany as error:
                    self.assertEqual(error.most, most)


class JudgeTest(unittest.TestCase):
    book = Book(RELATIONS, {FACTS[0]: [(0, 1)], FACTS[1]: [(0, 1)]})
    change = ("set", "lives", ("ann", "oslo"), 1, 1)

    def judge(self, points, tree):
        return is_mend(self.book, (ONE_HOME,), self.change, points, tree, NEVER)

    def test_points_of_any_form(self):
        point = ("lives", ("ann", "rome"), 1)
        self.assertIs(self.judge((point,), (0, ())), True)
        things = [None, 5, True, "point", (), point[:2], [*point], (*point, 1), ("lives", ["ann", "rome"], 1), {}, object(), [],
                  ("lives", ("ann", "rome"), 0), ("lives", ("bob", "rome"), 1), ("lives", ("ann", "oslo"), 1), {point}]
        things += [("lives", ("ann", "rome"), thing) for thing in NO_DAYS]
        things += [("lives", ("ann", thing), 1) for thing in NO_NAMES] + [(thing, ("ann", "rome"), 1) for thing in NO_NAMES]
        for thing in things:
            self.assertIs(self.judge((thing,), (0, ())), False, thing)
            self.assertIs(self.judge((point, thing), (0, ((point, (0, ())),))), False)
        for points in ([point], {point}, point, None, 5, (), (point, point), object(), {point: True}):
            self.assertIs(self.judge(points, (0, ())), False)

    def test_trees_of_any_form(self):
        point = ("lives", ("ann", "rome"), 1)
        for tree in (None, 5, (), (0,), [0, ()], (0, []), (1, ()), (-1, ()), (True, ()), (False, ()), (0.0, ()), ("0", ()), {},
                     (0, ((point, (0, ())),)), (0, None), (0, (), ()), object(), ((), ())):
            self.assertIs(self.judge((point,), tree), False)

    def test_more_than_the_fewest(self):
        late = Clause((("pays", (P,), T), ("lives", (P, Q), U)), ())
        book = Book(RELATIONS, {FACTS[0]: [(0, 0)], FACTS[2]: [(0, 0)], FACTS[1]: [(0, 0)]})
        change = ("set", "pays", ("ann",), 3, 3)
        points, tree = mend(book, (late,), change, NEVER)
        self.assertEqual(points, (("lives", ("ann", "oslo"), 0), ("lives", ("ann", "rome"), 0)))
        more = points + (("lives", ("bob", "rome"), 0),)
        self.assertIs(is_mend(book, (late,), change, points, tree, NEVER), True)
        self.assertIs(is_mend(book, (late,), change, more, tree, NEVER), False)
        self.assertIs(is_mend(book, (late,), change, points[:1], (0, ()), NEVER), False)

    def test_constants(self):
        rule = Clause((("pays", (name("ann"),), day(0)), ("pays", (P,), day(LAST))), ())
        book = Book(RELATIONS, {FACTS[3]: [(0, 0)]})
        change = ("set", "pays", ("bob",), 7, LAST)
        self.assertEqual(mend(book, (rule,), change, NEVER), ((("pays", ("ann",), 0),), (0, ())))


if __name__ == "__main__":
    unittest.main()
