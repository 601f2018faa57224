"""[35], [36]: offices against an own one; and the promise that what was told last is what is known."""

import itertools
import unittest

from asking import NOW, any_, when
from deeds import DAYS, FACTS, ONE_HOME, RELATIONS, ROME, OwnOffice, some_ask, some_change, some_office
from helpers import LAST, NO_DAYS, NO_INTEGERS, NO_NAMES, dice
from twicedated.askerrors import BadAsk, BadQuestion
from twicedated.errors import BadChange, BadMoment, BadRelations, TooMany
from twicedated.histories import History
from twicedated.mends import mend
from twicedated.offices import Office
from twicedated.questions import Clause, Question
from twicedated.touching import touching

MOST = 10 ** 9
P, Q, R, T = any_("p"), any_("q"), any_("r"), when("t")
PAYS = Question((), (Clause((("pays", (P,), T),), (("less", T, NOW),)),), ())
WRONG_CHANGES = {"form": None, "word": ("put", "x", (), 1, 0), "relation": ("set", "x", (), 1, 0),
                 "names": ("set", "pays", (), 1, 0), "days": ("set", "pays", ("ann",), 1, 0)}


class OfficeTest(unittest.TestCase):
    def test_of_the_document(self):
        office = Office({"lives": 2}, (), [ROME], 1000)
        self.assertEqual(office.change(("set", "lives", ("ann", "rome"), 0, 99)), [])
        self.assertEqual(office.ask("mayor", 0, 50), (("ann",),))
        self.assertEqual(office.change(("clear", "lives", ("ann", "rome"), 50, 60)), [(0, "mayor", 0, 50, ())])
        self.assertEqual((office.answers_at(0, 50, 1), office.answers_at(0, 50, 2)), ((("ann",),), ()))
        self.assertEqual((office.told_at("mayor", 0, 50, 0), office.told_at("mayor", 0, 50, 1), office.told_at("mayor", 0, 50, 2)),
                         (None, (("ann",),), ()))

    def look_at(self, office, own):
        """Whether all that an office tells is so."""
        last = len(own.books) - 1
        self.assertEqual(office.history.last_moment(), last)
        self.assertEqual(office.sent, len(own.letters))
        for number, now in itertools.product(range(len(own.questions)), DAYS):
            self.assertEqual(office.answers(number, now), own.answers(number, now))
            for moment in {0, last // 2, last}:
                self.assertEqual(office.answers_at(number, now, moment), own.answers(number, now, moment))
        for (who, number, now), told in own.told.items():
            self.assertEqual(office.last_told(who, number, now), told[-1][1])
            for moment in range(last + 1):
                found = office.told_at(who, number, now, moment)
                self.assertEqual(found, own.told_at(who, number, now, moment))
                # The promise: from when it was asked on, what was told last is what is known.
                self.assertEqual(found, office.answers_at(number, now, moment) if moment >= told[0][0] else None)

    def test_against_an_own_office(self):
        letters = refused = 0
        for run in range(120):
            chance = dice(run)
            rules, questions = some_office(chance)
            office, own = Office(RELATIONS, rules, questions, MOST), OwnOffice(rules, questions)
            for _ in range(chance.randrange(5, 16)):
                if chance.random() < 0.45:
                    who, number, now = some_ask(chance, questions)
                    self.assertEqual(office.ask(who, number, now), own.ask(who, number, now))
                    continue
                change, looked, history = some_change(chance), office.looked, office.history
                told = own.change(change)
                self.assertEqual(office.change(change), told)
                if told is None:
                    refused += 1
                    self.assertEqual((office.history, office.looked), (history, looked))
                    continue
                letters += len(told)
                self.assertEqual(office.history, history.said(change))
                may = [key for key in own.told if touching(questions[key[1]], rules, change[1:], MOST)]
                self.assertLessEqual(len(told), office.looked - looked)
                self.assertLessEqual(office.looked - looked, len(may))
                self.assertLessEqual({letter[1:4] for letter in told}, set(may))
            self.look_at(office, own)
        self.assertTrue(letters > 50 and refused > 50, (letters, refused))

    def test_at_first(self):
        for questions in ([], [ROME], (ROME, PAYS, ROME)):
            office = Office(RELATIONS, (), questions, MOST)
            self.assertEqual(office.history, History(RELATIONS, ()))
            self.assertEqual((office.questions, office.sent, office.looked), (tuple(questions), 0, 0))
        self.assertEqual(office.answers(0, 5), ())
        self.assertEqual(office.answers_at(0, 5, 0), ())
        self.assertIsNone(office.last_told("mayor", 0, 5))
        self.assertIsNone(office.told_at("mayor", 0, 5, 0))
        self.assertEqual(Office({}, (), [], MOST).history.relations, {})

    def test_no_questions(self):
        office = Office(RELATIONS, (ONE_HOME,), [], MOST)
        self.assertEqual(office.change(("set", *FACTS[0], 0, 9)), [])
        self.assertIsNone(office.change(("set", *FACTS[2], 9, 12)))
        self.assertEqual((office.sent, office.looked, office.history.last_moment()), (0, 0, 1))
        for asked in (lambda: office.answers(0, 0), lambda: office.ask("mayor", 0, 0)):
            with self.assertRaises(BadAsk):
                asked()

    def test_what_touches_nobody(self):
        office = Office(RELATIONS, (ONE_HOME,), [ROME, PAYS], MOST)
        office.ask("mayor", 0, 5)
        self.assertEqual(office.change(("set", "pays", ("ann",), 0, 9)), [])
        self.assertEqual(office.change(("set", "lives", ("ann", "oslo"), 0, 9)), [])
        self.assertEqual(office.looked, 0)
        self.assertEqual(office.change(("clear", "pays", ("ann",), 5, 9)), [])
        self.assertEqual((office.looked, office.sent), (0, 0))
        self.assertEqual(office.change(("set", "lives", ("bob", "rome"), 7, 9)), [])
        self.assertLessEqual(office.looked, 1)
        # Nobody was told of the second question.
        self.assertEqual(office.change(("set", "lives", ("bob", "rome"), 0, 9)), [(0, "mayor", 0, 5, (("bob",),))])
        self.assertEqual(office.sent, 1)

    def test_letters_ascending_once_each(self):
        office = Office(RELATIONS, (), [ROME, PAYS], MOST)
        asked = [("zoe", 0, 7), ("ann", 1, 9), ("ann", 0, 8), ("bob", 0, 7), ("ann", 0, 7), ("zoe", 0, LAST), ("ann", 0, 0)]
        for who, number, now in asked + asked:
            self.assertEqual(office.ask(who, number, now), ())
        letters = office.change(("set", "lives", ("ann", "rome"), 7, 8))
        told = (("ann",),)
        self.assertEqual(letters, [(0, "ann", 0, 7, told), (1, "ann", 0, 8, told), (2, "bob", 0, 7, told), (3, "zoe", 0, 7, told)])
        self.assertEqual(office.change(("set", "lives", ("ann", "rome"), 7, 8)), [])
        self.assertEqual(office.change(("clear", "lives", ("ann", "rome"), 0, 7)),
                         [(4, "ann", 0, 7, ()), (5, "bob", 0, 7, ()), (6, "zoe", 0, 7, ())])
        self.assertEqual(office.change(("set", "pays", ("ann",), 0, 0)), [(7, "ann", 1, 9, ((),))])
        self.assertEqual(office.sent, 8)

    def test_far_back_and_taken_back_again(self):
        office = Office(RELATIONS, (), [PAYS], MOST)
        office.ask("mayor", 0, LAST)
        office.ask("mayor", 0, 0)
        self.assertEqual(office.change(("set", "pays", ("ann",), 0, 0)), [(0, "mayor", 0, LAST, ((),))])
        self.assertEqual(office.change(("clear", "pays", ("ann",), 0, LAST)), [(1, "mayor", 0, LAST, ())])
        self.assertEqual(office.change(("set", "pays", ("bob",), LAST, LAST)), [])
        self.assertEqual(office.change(("set", "pays", ("bob",), LAST - 1, LAST - 1)), [(2, "mayor", 0, LAST, ((),))])
        told = [office.told_at("mayor", 0, LAST, moment) for moment in range(5)]
        self.assertEqual(told, [(), ((),), (), (), ((),)])
        self.assertEqual([office.told_at("mayor", 0, 0, moment) for moment in range(5)], [()] * 5)

    def test_somebody_who_asks_twice(self):
        office = Office(RELATIONS, (), [ROME], MOST)
        self.assertEqual(office.ask("mayor", 0, 5), ())
        office.change(("set", "lives", ("ann", "rome"), 5, 5))
        self.assertEqual(office.ask("mayor", 0, 5), (("ann",),))
        self.assertEqual(office.ask("mayor", 0, 5), (("ann",),))
        office.change(("set", "pays", ("ann",), 5, 5))
        self.assertEqual(office.ask("mayor", 0, 5), (("ann",),))
        self.assertEqual([office.told_at("mayor", 0, 5, moment) for moment in range(3)], [(), (("ann",),), (("ann",),)])
        self.assertEqual(office.last_told("mayor", 0, 5), (("ann",),))
        self.assertIsNone(office.last_told("bob", 0, 5))
        self.assertIsNone(office.last_told("mayor", 0, 6))

    def test_refused_and_mended(self):
        office = Office(RELATIONS, (ONE_HOME,), [ROME], MOST)
        office.change(("set", "lives", ("ann", "rome"), 0, 9))
        office.ask("mayor", 0, 8)
        change = ("set", "lives", ("ann", "oslo"), 8, 20)
        before = office.history
        self.assertIsNone(office.change(change))
        self.assertEqual((office.history, office.sent, office.looked), (before, 0, 0))
        points, _ = mend(office.history.book_at(1), (ONE_HOME,), change, MOST)
        letters = [letter for relation, names, number in points
                   for letter in office.change(("clear", relation, names, number, number))]
        self.assertEqual(letters, [(0, "mayor", 0, 8, ())])
        self.assertEqual(office.change(change), [])
        self.assertEqual(office.answers(0, 7), (("ann",),))

    def test_what_is_handed_in(self):
        relations, questions = dict(RELATIONS), [ROME]
        office = Office(relations, (), questions, MOST)
        relations["owns"] = 1
        questions.append(PAYS)
        self.assertEqual((office.history.relations, office.questions), (RELATIONS, (ROME,)))
        told = office.change(("set", "lives", ("ann", "rome"), 0, 9))
        office.ask("mayor", 0, 5)
        letters = office.change(("clear", "lives", ("ann", "rome"), 0, 9))
        letters.clear()
        told.append(5)
        self.assertEqual(office.last_told("mayor", 0, 5), ())
        self.assertEqual(office.change(("set", "lives", ("bob", "rome"), 5, 5)), [(1, "mayor", 0, 5, (("bob",),))])

    def test_can_touch(self):
        both = set()
        for run in range(60):
            chance = dice(run)
            rules, questions = some_office(chance)
            office = Office(RELATIONS, rules, questions, MOST)
            for _ in range(4):
                change, number = some_change(chance), chance.randrange(len(questions))
                told = bool(touching(questions[number], rules, change[1:], MOST))
                both.add(told)
                self.assertIs(office.can_touch(number, change), told)
            self.assertEqual((office.looked, office.history.last_moment()), (0, 0))
        self.assertEqual(both, {True, False})

    def test_relations_that_the_office_has_not(self):
        other = Question((P,), (Clause((("owns", (P,), NOW),), ()), Clause((("pays", (P,), NOW),), ())), ())
        rule = Clause((("sold", (P, Q, R), T),), ())
        office = Office({"pays": 1}, (rule,), [other], MOST)
        office.ask("mayor", 0, 5)
        self.assertEqual(office.change(("set", "pays", ("ann",), 5, 5)), [(0, "mayor", 0, 5, (("ann",),))])
        with self.assertRaises(BadChange):
            office.change(("set", "owns", ("ann",), 5, 5))


class WrongTest(unittest.TestCase):
    def test_what_an_office_is_made_of(self):
        for relations in ({"Lives": 2}, {"lives": 0}, {"lives": 5}, {"lives": True}):
            for rules in ((), None):
                for questions in ([], [5]):
                    with self.assertRaises(BadRelations) as caught:
                        Office(relations, rules, questions, MOST)
                    self.assertEqual(caught.exception.name, list(relations)[0])
        on_day = Clause((("lives", (P, Q), NOW),), ())
        for rules in (None, [ONE_HOME], (ONE_HOME,) * 4, (5,), (on_day,), ONE_HOME, (ROME,)):
            for questions in ([], [ROME], [5], [Question((), (Clause((("lives", (P,), T),), ()),), ())]):
                for most in (0, MOST):
                    self.assertEqual(self.fault(RELATIONS, rules, questions, most), "rules")
        short = Clause((("lives", (P,), T),), ())
        for relations, rules, questions in (({"lives": 1}, (), [ROME]), ({"lives": 1}, (ONE_HOME,), []), ({"lives": 2}, (short,), [ROME]),
                                            ({}, (ONE_HOME,), [ROME, Question((), (short,), ())]),
                                            ({}, (), [ROME, PAYS, Question((), (short,), ())]), ({}, (ONE_HOME, short), []),
                                            ({"lives": 1}, (), [PAYS, ROME, 5])):
            for made in (list, tuple):
                self.assertEqual(self.fault(relations, rules, made(questions), MOST), "relation")

    def fault(self, *parts):
        with self.assertRaises(BadQuestion) as caught:
            Office(*parts)
        return caught.exception.word

    def test_no_questions_among_questions(self):
        for thing in (None, 5, "question", (), (ROME,), ONE_HOME, object(), Question):
            for questions in ([thing], (thing,), [ROME, thing], [thing, ROME], [ROME, thing, 7]):
                with self.assertRaises(BadAsk) as caught:
                    Office(RELATIONS, (), questions, MOST)
                self.assertIs(caught.exception.thing, thing)

    def test_what_is_none(self):
        office = Office(RELATIONS, (), [ROME, PAYS], MOST)
        office.change(("set", "pays", ("ann",), 0, 0))
        numbers = [*NO_INTEGERS, -1, 2, 10 ** 30]
        moments = [*NO_INTEGERS, -1, 2, 10 ** 30]
        for number, now, moment in itertools.product(numbers, [5, -1, None], [0, None, 2]):
            for asked in (lambda: office.answers(number, now), lambda: office.answers_at(number, now, moment),
                          lambda: office.ask("mayor", number, now)):
                self.assert_ask(number, asked)
        for now, moment in itertools.product(NO_DAYS, [0, None, 2]):
            for asked in (lambda: office.answers(1, now), lambda: office.answers_at(1, now, moment),
                          lambda: office.ask("mayor", 0, now)):
                self.assert_ask(now, asked)
        for who, number, now in itertools.product(NO_NAMES, [0, 2, None], [5, None]):
            self.assert_ask(who, lambda: office.ask(who, number, now))
        for moment in moments:
            for asked in (lambda: office.answers_at(1, 5, moment), lambda: office.told_at("mayor", 1, 5, moment)):
                with self.assertRaises(BadMoment) as caught:
                    asked()
                self.assertIs(caught.exception.moment, moment)
        self.assertIsNone(office.last_told("mayor", 0, 5))

    def assert_ask(self, thing, asked):
        with self.assertRaises(BadAsk) as caught:
            asked()
        self.assertIs(caught.exception.thing, thing)

    def test_changes(self):
        office = Office(RELATIONS, (ONE_HOME,), [ROME], MOST)
        office.ask("mayor", 0, 5)
        for word, change in WRONG_CHANGES.items():
            for asked in (lambda: office.change(change), lambda: office.can_touch(0, change)):
                with self.assertRaises(BadChange) as caught:
                    asked()
                self.assertEqual(caught.exception.word, word)
        self.assertEqual((office.history.last_moment(), office.looked, office.sent), (0, 0, 0))

    def test_most(self):
        office = Office(RELATIONS, (ONE_HOME,), [ROME], 0)
        with self.assertRaises(TooMany) as caught:
            office.can_touch(0, ("set", *FACTS[0], 0, 9))
        self.assertEqual(caught.exception.most, 0)
        with self.assertRaises(BadChange):
            office.can_touch(0, None)
        # Nothing is half done.
        office.ask("mayor", 0, 5)
        with self.assertRaises(TooMany):
            office.change(("set", *FACTS[0], 0, 9))
        self.assertEqual((office.history.last_moment(), office.answers(0, 5), office.looked), (0, (), 0))


if __name__ == "__main__":
    unittest.main()
