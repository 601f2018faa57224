"""[27]: answers, timelines and matches, against trying all facts and all days."""

import unittest

from asking import NOW, answers_of, any_, day, days_by_fact, matches_of, name, some_clause, some_question, when
from helpers import LAST, dice, is_row, row_of
from twicedated.answering import answers, is_legal, matches, timeline, timelines
from twicedated.books import Book, empty_book
from twicedated.errors import TooMany
from twicedated.questions import Clause, Question
from twicedated.spans import breaks, has

RELATIONS = {"lives": 2, "pays": 1}
FACTS = [("lives", ("ann", "rome")), ("lives", ("bob", "rome")), ("lives", ("ann", "bob")), ("lives", ("rome", "rome")),
         ("pays", ("ann",)), ("pays", ("bob",))]
NEAR = [0, 1, 2, 3, LAST - 2, LAST - 1, LAST]
ENDS = [0, 1, 9, 12, 500000, 500001, LAST - 1, LAST]
NEVER = 10 ** 9
P, Q, T, U = any_("p"), any_("q"), when("t"), when("u")


def point_book(chance):
    """A book of few points near both ends of the days."""
    rows = {fact: row_of([number for number in NEAR if chance.random() < 0.35]) for fact in FACTS if chance.random() < 0.8}
    return Book(RELATIONS, rows)


def span_book(chance):
    """A book of few spans, some as long as can be."""
    book = empty_book(RELATIONS)
    for _ in range(chance.randrange(2, 7)):
        first, last = sorted([chance.choice(ENDS), chance.choice(ENDS)])
        book = book.changed((chance.choice(["set", "set", "clear"]), *chance.choice(FACTS), first, last))
    return book


def near(days):
    """All days that are one of some days, or near it."""
    return sorted({end + k for end in days for k in range(-3, 4) if 0 <= end + k <= LAST})


def ends_of(book, question):
    """The ends of spans, the constants and the ends of all days: days that aren't near one are like others that are."""
    clauses = question.clauses + question.unless
    terms = [clause_atom[2] for clause in clauses for clause_atom in clause.atoms]
    terms += [term for clause in clauses for test in clause.tests for term in test[1:]]
    return {0, LAST, *[term[1] for term in terms if term[0] == "day"],
            *[end for row in book.rows.values() for end in breaks(row) if end <= LAST]}


def how_much(question, known):
    """How many lots of points must be tried."""
    return sum(sum(map(len, known.values())) ** len(clause.atoms) for clause in question.clauses + question.unless)


class AnswersTest(unittest.TestCase):
    def look_at(self, question, book, told, asked):
        """told: the days on which facts are tried, for a day that is asked of; asked: the days that are asked of."""
        ahead = dict(book.rows)
        lines = timelines(question, book)
        self.assertEqual(list(lines), sorted(lines))
        self.assertTrue(all(is_row(row) and row for row in lines.values()))
        for now in asked:
            right = answers_of(question, told(now), now)
            self.assertEqual(answers(question, book, now), right, (question.head, now))
            self.assertEqual([names for names in lines if has(lines[names], now)], right)
        self.assertEqual(timelines(question, book), lines)
        for names, row in lines.items():
            self.assertEqual(timeline(question, book, names), row)
            self.assertEqual(timeline(question, book, list(names)), row)
            for end in breaks(row):
                self.assertTrue(end in asked or end - 1 in asked)
        self.assertEqual(book.rows, ahead)

    def test_books_of_points(self):
        found = 0
        for number in range(250):
            chance = dice(number)
            book, question = point_book(chance), some_question(chance, RELATIONS, [0, 2, LAST - 1])
            known = days_by_fact(book, NEAR)
            self.look_at(question, book, lambda now: known, [*NEAR, 4, 5, 500000, LAST - 4, LAST - 3])
            found += len(timelines(question, book))
        self.assertGreater(found, 60)

    def test_books_of_long_spans(self):
        found = 0
        for number in range(500):
            chance = dice(number)
            book, question = span_book(chance), some_question(chance, RELATIONS, [0, 10, 500000, LAST])
            ends = ends_of(book, question)
            if how_much(question, days_by_fact(book, near([*ends, 700]))) > 3000000:
                continue
            asked = near(ends)
            if len(asked) > 12:
                asked = sorted([0, LAST, *chance.sample(asked, 10)])
            lines = timelines(question, book)
            for now in [*asked, chance.randrange(LAST + 1)]:
                right = answers_of(question, days_by_fact(book, near([*ends, now])), now)
                self.assertEqual(answers(question, book, now), right)
                self.assertEqual([names for names in lines if has(lines[names], now)], right)
            for names, row in lines.items():
                self.assertTrue(is_row(row) and row)
                self.assertEqual(timeline(question, book, names), row)
                self.assertLessEqual(set(breaks(row)), {0, LAST + 1, *near(ends)})
            found += len(lines)
        self.assertGreater(found, 60)

    def row(self, question, book, names):
        self.assertEqual(timeline(question, book, names), timelines(question, book).get(names, ()))
        return timeline(question, book, names)

    def test_earlier_and_later(self):
        book = Book(RELATIONS, {FACTS[0]: [(0, 99), (200, LAST)], FACTS[4]: [(50, 60)]})
        atoms = (("lives", (P, Q), T), ("pays", (P,), NOW))
        for test, row in ((("less", T, NOW), ((50, 60),)), (("less", NOW, T), ((50, 60),)), (("same", NOW, T), ((50, 60),)),
                          (("less", T, day(0)), ()), (("most", T, day(0)), ((50, 60),)), (("less", day(LAST), T), ()),
                          (("most", NOW, day(50)), ((50, 50),)), (("less", day(59), NOW), ((60, 60),)),
                          (("unlike", NOW, day(50)), ((51, 60),)), (("unlike", NOW, day(55)), ((50, 54), (56, 60)))):
            question = Question((P,), (Clause(atoms, (test,)),), ())
            self.assertEqual(self.row(question, book, ("ann",)), row)

    def test_days_are_bounded_by_differences(self):
        book = Book(RELATIONS, {FACTS[0]: [(10, LAST - 10)]})
        lives = ("lives", (P, name("rome")), T), ("lives", (P, name("rome")), U)
        for tests, row in (((("less", T, U), ("less", U, NOW)), ((12, LAST),)), ((("less", NOW, T), ("less", T, U)),
                            ((0, LAST - 12),)), ((("less", T, NOW), ("less", NOW, U)), ((11, LAST - 11),)),
                           ((("less", T, U), ("less", U, T)), ()), ((("unlike", T, U), ("most", T, NOW), ("most", U, NOW)),
                            ((11, LAST),)), ((("most", T, NOW), ("most", NOW, T)), ((10, LAST - 10),)), ((), ((0, LAST),))):
            question = Question((P,), (Clause(lives, tests),), ())
            self.assertEqual(self.row(question, book, ("ann",)), row, tests)

    def test_spans_that_meet_a_bound_by_one_day(self):
        book = Book(RELATIONS, {FACTS[0]: [(0, 9)], FACTS[4]: [(10, 20)], FACTS[5]: [(9, 9)]})
        for who, word, row in (("ann", "less", ((10, 20),)), ("ann", "most", ((10, 20),)), ("bob", "less", ((9, 9),)),
                               ("bob", "most", ((9, 9),)), ("ann", "same", ()), ("bob", "same", ((9, 9),))):
            clause = Clause((("lives", (name("ann"), Q), T), ("pays", (P,), NOW)), ((word, T, NOW),))
            self.assertEqual(self.row(Question((P,), (clause,), ()), book, (who,)), row)
            clause = Clause((("lives", (name("ann"), Q), T), ("pays", (P,), U)), ((word, U, T),))
            told = {("bob", "less"): (), ("bob", "most"): ((0, LAST),), ("bob", "same"): ((0, LAST),)}.get((who, word), ())
            if word != "less" or who == "ann":
                self.assertEqual(self.row(Question((P,), (clause,), ()), book, (who,)), told)
        # Day 9 of bob's is behind days 0 to 8 alone.
        clause = Clause((("lives", (name("ann"), Q), T), ("pays", (P,), U)), (("less", U, T),))
        self.assertEqual(self.row(Question((P,), (clause,), ()), book, ("bob",)), ())

    def test_heads(self):
        book = Book(RELATIONS, {FACTS[0]: [(5, 5)], FACTS[1]: [(5, 6)]})
        clause = Clause((("lives", (P, Q), NOW),), ())
        self.assertEqual(timelines(Question((), (clause,), ()), book), {(): ((5, 6),)})
        self.assertEqual(answers(Question((), (clause,), ()), book, 7), [])
        self.assertEqual(answers(Question((), (clause,), ()), book, 6), [()])
        self.assertEqual(answers(Question((P, P), (clause,), ()), book, 5), [("ann", "ann"), ("bob", "bob")])
        self.assertEqual(answers(Question((Q, P, Q), (clause,), ()), book, 6), [("rome", "bob", "rome")])
        self.assertEqual(timeline(Question((P, P), (clause,), ()), book, ("ann", "bob")), ())
        self.assertEqual(timeline(Question((P, P), (clause,), ()), book, ("ann", "ann")), ((5, 5),))
        self.assertEqual(timeline(Question((P,), (clause,), ()), book, ("ann", "ann")), ())
        self.assertEqual(timeline(Question((P,), (clause,), ()), book, ()), ())
        self.assertEqual(timeline(Question((P,), (clause,), ()), book, ("x",)), ())

    def test_three_atoms(self):
        book = Book(RELATIONS, {("pays", ("ann",)): [(0, LAST)], ("pays", ("bob",)): [(LAST, LAST)], FACTS[0]: [(0, 0)]})
        clause = Clause((("pays", (P,), T), ("pays", (Q,), U), ("lives", (P, name("rome")), when("v"))),
                        (("less", when("v"), T), ("less", T, U), ("less", U, NOW), ("unlike", P, name("bob"))))
        self.assertEqual(timelines(Question((P, Q), (clause,), ()), book), {("ann", "ann"): ((3, LAST),)})

    def test_several_clauses_and_unless(self):
        book = Book(RELATIONS, {FACTS[0]: [(0, 50)], FACTS[4]: [(40, 60)], FACTS[5]: [(45, 46)]})
        lives = Clause((("lives", (P, Q), NOW),), ())
        pays = Clause((("pays", (P,), NOW),), ())
        paid = Clause((("pays", (P,), T),), (("less", T, NOW),))
        self.assertEqual(timelines(Question((P,), (lives, pays), ()), book), {("ann",): ((0, 60),), ("bob",): ((45, 46),)})
        self.assertEqual(timelines(Question((P,), (lives,), (pays,)), book), {("ann",): ((0, 39),)})
        self.assertEqual(timelines(Question((P,), (lives, pays), (paid,)), book), {("ann",): ((0, 40),), ("bob",): ((45, 45),)})
        self.assertEqual(timelines(Question((P,), (pays,), (lives, paid)), book), {("bob",): ((45, 45),)})

    def test_no_answer(self):
        book = Book(RELATIONS, {fact: [(0, LAST)] for fact in FACTS})
        for tests in ((("less", T, T),), (("unlike", P, P),), (("same", P, name("x")),), (("less", NOW, day(0)),),
                      (("less", T, day(0)),), (("unlike", name("a"), name("a")),), (("less", day(5), day(5)),)):
            question = Question((P,), (Clause((("pays", (P,), T),), tests),), ())
            self.assertEqual(timelines(question, book), {})
            self.assertEqual(answers(question, book, 0), [])
            self.assertEqual(timeline(question, book, ("ann",)), ())

    def test_relations_that_the_book_has_not(self):
        book = Book({"pays": 1}, {("pays", ("ann",)): [(0, LAST)]})
        for atom in (("owns", (P,), NOW), ("pays", (P, Q), NOW), ("lives", (P, Q), NOW)):
            self.assertEqual(timelines(Question((P,), (Clause((atom,), ()),), ()), book), {})
            self.assertEqual(matches(Clause((atom,), ()), book, NEVER), [])
            self.assertIs(is_legal(book, (Clause((atom,), ()),)), True)

    def test_asked_on_all_days(self):
        book = Book({"pays": 1}, {("pays", ("ann",)): [(7, 7)]})
        question = Question((P,), (Clause((("pays", (P,), T),), ()),), ())
        self.assertEqual(timelines(question, book), {("ann",): ((0, LAST),)})
        for now in (0, 7, LAST):
            self.assertEqual(answers(question, book, now), [("ann",)])

    def test_many_facts(self):
        people = [f"p{number}" for number in range(400)]
        book = Book(RELATIONS, {("lives", (who, people[(k + 1) % 400])): [(k, LAST - k)] for k, who in enumerate(people)})
        clause = Clause((("lives", (P, Q), NOW), ("lives", (Q, any_("r")), T)), (("less", T, NOW),))
        lines = timelines(Question((P,), (clause,), ()), book)
        self.assertEqual(lines["p3",], ((5, LAST - 3),))
        self.assertEqual(len(lines), 400)


class MatchesTest(unittest.TestCase):
    def test_against_trying_all(self):
        found = 0
        for number in range(300):
            chance = dice(number)
            book, rule = point_book(chance), some_clause(chance, RELATIONS, [0, 2, LAST - 1], has_now=False)
            right = sorted({points for _, points in matches_of(rule, days_by_fact(book, NEAR), 0)})
            self.assertEqual(matches(rule, book, NEVER), right)
            self.assertEqual(matches(rule, book, max(1, len(right))), right)
            self.assertIs(is_legal(book, (rule,)), not right)
            self.assertIs(is_legal(book, [rule]), not right)
            if len(right) > 1:
                with self.assertRaises(TooMany) as caught:
                    matches(rule, book, len(right) - 1)
                self.assertEqual(caught.exception.most, len(right) - 1)
            found += len(right)
        self.assertGreater(found, 300)

    def test_most_0(self):
        for book in (empty_book(RELATIONS), Book(RELATIONS, {FACTS[4]: [(0, 5)]})):
            with self.assertRaises(TooMany) as caught:
                matches(Clause((("pays", (P,), T),), ()), book, 0)
            self.assertEqual(caught.exception.most, 0)

    def test_too_many_is_told_soon(self):
        book = Book(RELATIONS, {fact: [(0, LAST)] for fact in FACTS})
        rule = Clause((("pays", (P,), T), ("pays", (Q,), U), ("lives", (P, Q), when("v"))), (("less", T, U),))
        with self.assertRaises(TooMany):
            matches(rule, book, 100)

    def test_long_spans(self):
        book = Book(RELATIONS, {FACTS[4]: [(0, LAST)], FACTS[5]: [(0, LAST)]})
        near = Clause((("pays", (P,), T), ("pays", (P,), U)), (("less", T, U), ("less", day(LAST - 2), T)))
        self.assertEqual(matches(near, book, NEVER), [(("pays", (who,), LAST - 1), ("pays", (who,), LAST))
                                                      for who in ("ann", "bob")])
        ends = Clause((("pays", (P,), T), ("pays", (P,), U)), (("less", T, U), ("less", U, day(3)), ("same", P, name("ann"))))
        self.assertEqual(matches(ends, book, 3), [(("pays", ("ann",), one), ("pays", ("ann",), other))
                                                  for one, other in ((0, 1), (0, 2), (1, 2))])
        self.assertIs(is_legal(book, (Clause((("pays", (P,), T),), (("less", day(LAST), T),)),)), True)
        self.assertIs(is_legal(book, (Clause((("pays", (P,), T),), (("most", day(LAST), T),)),)), False)

    def test_no_rules(self):
        self.assertIs(is_legal(Book(RELATIONS, {FACTS[0]: [(0, 1)]}), ()), True)

    def test_one_of_several_rules(self):
        fine, broken = Clause((("pays", (P,), day(7)),), ()), Clause((("lives", (P, P), T),), ())
        book = Book(RELATIONS, {FACTS[3]: [(0, 1)], FACTS[4]: [(8, 9)]})
        self.assertEqual([is_legal(book, rules) for rules in ((fine,), (broken,), (fine, broken), (broken, fine))],
                         [True, False, False, False])

    def test_one_point_for_two_atoms(self):
        book = Book(RELATIONS, {FACTS[4]: [(5, 5)]})
        rule = Clause((("pays", (P,), T), ("pays", (Q,), U)), ())
        self.assertEqual(matches(rule, book, NEVER), [(("pays", ("ann",), 5), ("pays", ("ann",), 5))])


if __name__ == "__main__":
    unittest.main()
