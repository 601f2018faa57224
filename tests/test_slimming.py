"""[34]: slim questions: out of the ones handed in, with the same answers, and of no part more than needed."""

import itertools
import unittest

from asking import (NOW, answers_of, any_, day, keeps, known_by, name, some_points, some_question, some_rules, tight_question,
                    tight_rules, when)
from helpers import LAST, dice
from twicedated.askerrors import BadQuestion
from twicedated.errors import TooMany
from twicedated.questions import Clause, Question
from twicedated.slimming import slim
from twicedated.within import Found, never, within

NEVER = 10 ** 9
RELATIONS = {"lives": 2, "pays": 1}
NUMBERS = [[0, 1, 2], [0, 5, LAST], [LAST - 1, LAST], [3, 4, 8]]
P, Q, R, T, U = any_("p"), any_("q"), any_("r"), when("t"), when("u")
ROME, OSLO = name("rome"), name("oslo")
IN_ROME = Clause((("lives", (P, ROME), NOW),), ())
IN_OSLO = Clause((("lives", (P, OSLO), NOW),), ())
SOMEWHERE = Clause((("lives", (P, Q), NOW),), ())
ONE_HOME = Clause((("lives", (P, Q), T), ("lives", (P, R), T)), (("unlike", Q, R),))


def some_case(number):
    """A question and rules."""
    chance = dice(number)
    if number % 2:
        return tight_question(chance), tight_rules(chance)
    relations, numbers = chance.choice([RELATIONS, {"pays": 1}, {"lives": 2}]), chance.choice(NUMBERS)
    return some_question(chance, relations, numbers), some_rules(chance, relations, numbers, chance.choice([0, 0, 1, 2]))


def without_one(row):
    """A row without each of its parts in turn."""
    return [row[:place] + row[place + 1:] for place in range(len(row))]


def rows_with_less(clauses):
    """Rows of clauses with one part less, where that leaves clauses."""
    for place, clause in enumerate(clauses):
        parts = [(atoms, clause.tests) for atoms in without_one(clause.atoms)]
        parts += [(clause.atoms, tests) for tests in without_one(clause.tests)]
        for atoms, tests in parts:
            try:
                yield clauses[:place] + (Clause(atoms, tests),) + clauses[place + 1:]
            except BadQuestion:
                pass


def smaller_ones(question):
    """All questions with one part less."""
    rows = [(clauses, question.unless) for clauses in [*without_one(question.clauses), *rows_with_less(question.clauses)]]
    rows += [(question.clauses, unless) for unless in [*without_one(question.unless), *rows_with_less(question.unless)]]
    made = []
    for clauses, unless in rows:
        try:
            made.append(Question(question.head, clauses, unless))
        except BadQuestion:
            pass
    return made


def is_part(few, many):
    """Whether a row is another one with things left out."""
    left = iter(many)
    return all(any(thing == other for other in left) for thing in few)


def are_parts(few, many):
    """Whether clauses are others with parts left out."""
    return any(all(is_part(one.atoms, other.atoms) and is_part(one.tests, other.tests) for one, other in zip(few, chosen))
               for chosen in itertools.combinations(many, len(few)))


class SlimTest(unittest.TestCase):
    def look_at(self, question, rules):
        told, shown = slim(question, rules, NEVER)
        self.assertEqual(slim(question, rules, NEVER), (told, shown))
        self.assertEqual(told.head, question.head)
        self.assertTrue(are_parts(told.clauses, question.clauses) and are_parts(told.unless, question.unless))
        self.assertTrue(within(told, question, rules, NEVER) and within(question, told, rules, NEVER))
        self.assertIsInstance(shown, tuple)
        smaller = smaller_ones(told)
        self.assertLessEqual(len(shown), len(smaller))
        used = set()
        for other in smaller:
            proofs = [place for place, (has_more, found) in enumerate(shown)
                      if self.is_shown(told, other, has_more, found, rules)]
            self.assertTrue(proofs)
            used |= set(proofs)
        self.assertEqual(used, set(range(len(shown))))
        return told

    def is_shown(self, told, other, has_more, found, rules):
        """Whether a Found is of a question with one part less, by an own matching."""
        self.assertIsInstance(found, Found)
        self.assertIsInstance(has_more, bool)
        if not keeps(found.points, rules):
            return False
        ones, others = (told, other) if has_more else (other, told)
        known = known_by(found.points)
        return found.names in answers_of(ones, known, found.now) and found.names not in answers_of(others, known, found.now)

    def test_no_part_more(self):
        sizes = {}
        for number in range(300):
            question, rules = some_case(number)
            told = self.look_at(question, rules)
            sizes[told == question] = sizes.get(told == question, 0) + 1
        self.assertTrue(min(sizes.values()) > 30, sizes)

    def test_same_answers_in_drawn_books(self):
        looked = 0
        for number in range(300):
            question, rules = some_case(number)
            told, _ = slim(question, rules, NEVER)
            if told != question:
                chance = dice(number)
                numbers = chance.choice([[0, 1, 2, 3, 4, 5], [LAST - 2, LAST - 1, LAST]])
                for _ in range(3):
                    known = known_by(some_points(chance, rules, RELATIONS, numbers, 7))
                    for now in numbers:
                        answers = answers_of(question, known, now)
                        looked += bool(answers)
                        self.assertEqual(answers_of(told, known, now), answers)
        self.assertGreater(looked, 100)

    def test_parts_that_add_nothing(self):
        fat = Clause((("lives", (P, ROME), NOW), ("lives", (P, ROME), NOW), ("lives", (P, Q), NOW)),
                     (("most", NOW, day(LAST)), ("same", P, P), ("most", day(0), NOW)))
        told = self.look_at(Question((P,), (fat, IN_ROME), ()), ())
        self.assertEqual(told, Question((P,), (IN_ROME,), ()))
        self.assertEqual(self.look_at(Question((P,), (IN_ROME, SOMEWHERE, IN_OSLO), ()), ()), Question((P,), (SOMEWHERE,), ()))
        self.assertEqual(self.look_at(Question((P,), (IN_ROME,), (IN_OSLO,)), ()), Question((P,), (IN_ROME,), (IN_OSLO,)))
        self.assertEqual(self.look_at(Question((P,), (IN_ROME,), (IN_OSLO,)), (ONE_HOME,)), Question((P,), (IN_ROME,), ()))
        self.assertEqual(self.look_at(Question((P,), (IN_ROME,), (IN_OSLO, IN_OSLO)), ()), Question((P,), (IN_ROME,), (IN_OSLO,)))

    def test_tests_of_what_is_left(self):
        # A test without which its clause says nothing more stays away; one that needs an atom bars leaving that out.
        clause = Clause((("pays", (P,), T), ("pays", (P,), U)), (("less", T, U), ("most", T, NOW), ("less", T, NOW)))
        told = self.look_at(Question((P,), (clause,), ()), ())
        self.assertEqual(told.clauses[0].tests, (("less", T, U), ("less", T, NOW)))
        clause = Clause((("pays", (P,), T), ("pays", (P,), U)), (("most", T, U),))
        self.assertEqual(len(self.look_at(Question((P,), (clause,), ()), ()).clauses[0].atoms), 1)

    def test_no_answer_ever(self):
        question = Question((P,), (IN_ROME, Clause((("pays", (P,), T), ("lives", (P, Q), NOW)), (("less", T, NOW),))),
                            (SOMEWHERE, Clause((("lives", (P, Q), T),), ())))
        told = self.look_at(question, ())
        self.assertTrue(never(told, (), NEVER))
        nobody = (Clause((("lives", (P, Q), T),), ()), Clause((("pays", (P,), T),), ()))
        told = self.look_at(question, nobody)
        self.assertEqual((len(told.clauses), len(told.clauses[0].atoms), told.clauses[0].tests, told.unless), (1, 1, (), ()))

    def test_nothing_to_leave_out(self):
        for head in ((), (P,), (P, P)):
            question = Question(head, (IN_ROME,), ())
            self.assertEqual(slim(question, (), NEVER), (question, ()))

    def test_wrong_ones(self):
        question = Question((P,), (IN_ROME,), ())
        for rules in (None, 5, [ONE_HOME], (ONE_HOME,) * 4, (IN_ROME,), (None,), ONE_HOME, object()):
            for most in (0, NEVER):
                with self.assertRaises(BadQuestion) as caught:
                    slim(question, rules, most)
                self.assertEqual(caught.exception.word, "rules")
        for rules in ((Clause((("lives", (P,), T),), ()),), (ONE_HOME, Clause((("lives", (P,), T),), ())),
                      (Clause((("pays", (P,), T), ("pays", (P, Q), T)), ()),)):
            for most in (0, NEVER):
                with self.assertRaises(BadQuestion) as caught:
                    slim(question, rules, most)
                self.assertEqual(caught.exception.word, "relation")

    def test_most(self):
        for number in range(40):
            question, rules = some_case(number)
            with self.assertRaises(TooMany) as caught:
                slim(question, rules, 0)
            self.assertEqual(caught.exception.most, 0)
            told = slim(question, rules, NEVER)
            for most in (1, 2, 5, 50):
                try:
                    self.assertEqual(slim(question, rules, most), told)
                except TooMany as error:
                    self.assertEqual(error.most, most)


if __name__ == "__main__":
    unittest.main()
