"""[1], [2] and the promise at the head of the document, over the whole program."""

import copy
import itertools
import unittest

from asking import NOW, any_, name, when
from deeds import ALONE, DAYS, ONE_HOME, PAID, PAID_ONCE, PAIRS, RELATIONS, ROME, some_ask, some_change, some_office
from helpers import LAST, dice, some_changes
from twicedated.answering import answers, is_legal, matches, timeline, timelines
from twicedated.asthough import condensed, does_matter
from twicedated.books import Book, empty_book
from twicedated.bureaus import Bureau
from twicedated.differences import differences, explained
from twicedated.errors import TooMany
from twicedated.fewest import fewest_between, is_fewest
from twicedated.histories import History
from twicedated.indexes import Index
from twicedated.journals import Journal
from twicedated.letters import Post
from twicedated.meeting import fewest_meeting
from twicedated.mends import is_mend, mend, mended
from twicedated.merging import both_touched, do_agree, merged, replayed, touched
from twicedated.offices import Office
from twicedated.questions import Clause, Question
from twicedated.relations import is_day, is_name
from twicedated.slimming import slim
from twicedated.tables import history_of, table_of
from twicedated.touching import Touched, Untouched, touching
from twicedated.within import Closed, Found, follows, never, shows_within, within

MOST = 10 ** 9
P, T = any_("p"), when("t")
FACTS = [("lives", ("ann", "rome")), ("lives", ("bob", "rome")), ("pays", ("ann",))]
KIND = ("lives", (None, "oslo"), 0, LAST)


class StoryTest(unittest.TestCase):
    """[1]: what a records office is asked."""

    def test_two_dates_blame_and_whom_to_tell(self):
        alone = Question((P,), ROME.clauses, ALONE.unless)
        rules, questions = (ONE_HOME,), [ROME, alone]
        office = Office({"lives": 2, "pays": 1}, rules, questions, MOST)
        office.change(("set", "lives", ("ann", "rome"), 0, 99))
        self.assertEqual(office.ask("mayor", 0, 50), (("ann",),))
        self.assertEqual(office.ask("baker", 1, 70), (("ann",),))
        self.assertEqual(office.change(("clear", "lives", ("ann", "rome"), 50, 60)), [(0, "mayor", 0, 50, ())])
        fact = ("lives", ("ann", "rome"))
        history = office.history
        self.assertEqual((history.was_known(fact, 50, 1), history.was_known(fact, 50, 2)), (True, False))
        self.assertEqual(history.blame(fact, 50, 2), 2)
        book = history.book_at(2)
        self.assertEqual(timeline(ROME, book, ("ann",)), ((0, 49), (61, 99)))
        changes, heights = fewest_between(history.book_at(0), book)
        self.assertEqual(len(changes), 2)
        self.assertTrue(is_fewest(history.book_at(0), book, changes, heights))
        # A change that breaks a rule is refused until as few days as can be are cleared.
        change = ("set", "lives", ("ann", "oslo"), 98, 120)
        self.assertIsNone(office.change(change))
        points, tree = mend(book, rules, change, MOST)
        self.assertTrue(is_mend(book, rules, change, points, tree, MOST))
        for relation, names, day in points:
            self.assertEqual(office.change(("clear", relation, names, day, day)), [])
        self.assertEqual(office.change(change), [])
        self.assertEqual(office.history.book_at(5), mended(book, change, points))
        # Whom a kind of correction can never touch is known ahead.
        found = touching(alone, rules, KIND, MOST)
        self.assertFalse(found)
        self.assertTrue(found.shows(alone, rules, KIND))
        self.assertFalse(office.can_touch(1, change))

    def test_the_promise(self):
        """Whoever asked knows at each moment what is so by what is known then."""
        for run in range(40):
            chance = dice(1000 + run)
            rules, questions = some_office(chance)
            office, asked = Office(RELATIONS, rules, questions, MOST), {}
            heard = {}
            for _ in range(15):
                if chance.random() < 0.4:
                    key = some_ask(chance, questions)
                    heard[key] = office.ask(*key)
                    asked.setdefault(key, office.history.last_moment())
                else:
                    for sent, who, number, now, found in office.change(some_change(chance)) or ():
                        heard[who, number, now] = found
                for (who, number, now), found in heard.items():
                    self.assertEqual(found, office.answers(number, now))
            for key, since in asked.items():
                for moment in range(since, office.history.last_moment() + 1):
                    self.assertEqual(office.told_at(*key, moment), office.answers_at(*key[1:], moment))


class ConventionTest(unittest.TestCase):
    def things(self):
        """Things of all classes that have ==, made anew."""
        clause = Clause((("pays", (P,), T),), (("less", T, NOW),))
        return [Book(RELATIONS, {FACTS[0]: [(0, 5)]}), History(RELATIONS, [("set", *FACTS[0], 0, 5)]), clause,
                Question((P,), (clause,), ()), Touched((), ("pays", ("ann",), 5), 5, ("ann",), True), Untouched((("clash",),)),
                Closed((("clash",),)), Found((("pays", ("ann",), 5),), 5, ("ann",))]

    def test_equal_things(self):
        for (place, one), (other_place, other) in itertools.product(enumerate(self.things()), enumerate(self.things())):
            self.assertIs(one == other, place == other_place)
            self.assertIs(one != other, place != other_place)
        for one in self.things():
            for other in (None, 5, True, "", (), [], {}, object(), int, one.__class__, OSError()):
                self.assertIs(one == other, False)
                self.assertIs(other == one, False)

    def test_integers(self):
        self.assertFalse(is_day(True) or is_day(False) or is_day(1.0) or is_name(b"a"))

    def asked(self, chance):
        """All sorts of questions about things that are handed in: pairs of what asks and the things."""
        rules, questions = some_office(chance)
        one, other = questions[0], questions[-1]
        relations, changes = dict(RELATIONS), [some_change(chance) for _ in range(6)]
        history, book = History(relations, changes), replayed(empty_book(relations), changes)
        base = replayed(empty_book(relations), changes[:3])
        change, kind = ("set", *some_change(chance)[1:]), some_change(chance)[1:]
        legal = is_legal(base, rules)
        return [(lambda: touching(one, rules, kind, MOST), (one, rules, kind)),
                (lambda: never(one, rules, MOST), (one, rules)), (lambda: slim(one, rules, MOST), (one, rules)),
                (lambda: within(one, Question(one.head, one.clauses[:1], one.unless), rules, MOST), (one, rules)),
                (lambda: follows(ONE_HOME, rules[:1], MOST), (rules,)),
                (lambda: answers(other, book, 1), (other, book)), (lambda: timelines(other, book), (other, book)),
                (lambda: [matches(rule, book, MOST) for rule in rules], (rules, book)),
                (lambda: mend(base, rules, change, MOST) if legal else None, (base, rules, change)),
                (lambda: merged(base, book, base), (base, book)), (lambda: touched(base, book), (base, book)),
                (lambda: both_touched(base, book, book), (base, book)), (lambda: do_agree(base, changes, changes), (base, changes)),
                (lambda: table_of(history), (history,)), (lambda: history_of(relations, table_of(history), 6), (relations, history)),
                (lambda: condensed(history), (history,)), (lambda: does_matter(history, 1), (history,)),
                (lambda: differences(history, 0, 6), (history,)), (lambda: explained(history, 6, 0), (history,)),
                (lambda: fewest_between(base, book), (base, book)), (lambda: Index(history, "lives").known(1, 6), (history,)),
                (lambda: Office(relations, rules, questions, MOST).ask("mayor", 0, 5), (relations, rules, questions)),
                (lambda: Bureau(relations, rules, questions, MOST, "").text, (relations, rules, questions)),
                (lambda: Journal(relations, "").history(), (relations,))]

    def test_asked_again_and_handed_in(self):
        for run in range(25):
            for ask, handed in self.asked(dice(run)):
                before = copy.deepcopy(handed)
                told = ask()
                self.assertEqual(ask(), told)
                self.assertEqual(handed, before)

    def test_orders_of_what_is_handed_in(self):
        book, history = Book(RELATIONS, {FACTS[0]: [(0, 5)]}), History(RELATIONS, some_changes(dice(1), FACTS, 6))
        turned = Book(dict(reversed(RELATIONS.items())), {fact: book.rows[fact] for fact in reversed(book.rows)})
        self.assertEqual(turned, book)
        self.assertEqual(list(turned.relations), sorted(RELATIONS))
        self.assertEqual(History(dict(reversed(RELATIONS.items())), list(history.changes)), history)

    def test_steps_without_an_answer(self):
        journal = Journal(RELATIONS, "")
        self.assertIsNone(journal.write(("letter", "bob", ("ann",))))
        self.assertIsNone(journal.settle())
        self.assertIsNone(Post(journal).hear("bob", 1))

    def test_too_many_with_0(self):
        book = empty_book(RELATIONS)
        for ask in (lambda: fewest_meeting([], 0), lambda: matches(ONE_HOME, book, 0),
                    lambda: mend(book, (), ("set", *FACTS[0], 0, 9), 0), lambda: is_mend(book, (), ("set", *FACTS[0], 0, 9), (), None, 0),
                    lambda: touching(PAIRS, (), ("owns", ("ann",), 0, 0), 0), lambda: within(PAID, PAID, (), 0),
                    lambda: never(PAID, (), 0), lambda: follows(PAID_ONCE, (), 0), lambda: slim(PAID, (), 0),
                    lambda: Office(RELATIONS, (), [PAID], 0).can_touch(0, ("set", *FACTS[0], 0, 9))):
            with self.assertRaises(TooMany) as caught:
                ask()
            self.assertEqual(caught.exception.most, 0)

    def test_judges_of_anybodys_things(self):
        for thing in (None, 5, True, "", (), [], {}, object(), int, float("nan"), (((),),)):
            self.assertIs(shows_within(PAID, PAID, (), thing), False)
            self.assertIs(Touched(thing, thing, thing, thing, thing).shows(PAID, (), KIND), False)
            self.assertIs(Untouched((thing,)).shows(PAID, (), KIND), False)
            self.assertIs(shows_within(PAID, PAID, (), Closed(thing)), False)
            self.assertIs(shows_within(PAID, PAID, (), Found(thing, thing, thing)), False)

    def test_answers_that_hang_on_few_days(self):
        """However long spans are, answers of all days are told at once."""
        book = Book(RELATIONS, {FACTS[0]: [(0, LAST)], FACTS[2]: [(500000, LAST)]})
        self.assertEqual(timelines(ROME, book), {("ann",): ((0, LAST),)})
        self.assertEqual(timelines(PAID, book), {(): ((500001, LAST),)})
        self.assertEqual([answers(PAID, book, day) for day in DAYS], [[], [], [], [], [()], [()]])


if __name__ == "__main__":
    unittest.main()
