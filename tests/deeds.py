"""An own office, for tests: points at each moment, and what was told, by trying all."""

from asking import (NOW, answers_of, any_, keeps, name, some_question, some_rules, tight_question, tight_rules, when)
from helpers import LAST
from twicedated.questions import Clause, Question

RELATIONS = {"lives": 2, "pays": 1}
FACTS = [("lives", ("ann", "rome")), ("lives", ("bob", "rome")), ("lives", ("ann", "oslo")), ("pays", ("ann",)),
         ("pays", ("bob",))]
DAYS = [0, 1, 2, 3, LAST - 1, LAST]
P, Q, R, T, U = any_("p"), any_("q"), any_("r"), when("t"), when("u")
IN_ROME = Clause((("lives", (P, name("rome")), NOW),), ())
ROME = Question((P,), (IN_ROME,), ())
ALONE = Question((P,), (IN_ROME, Clause((("pays", (P,), NOW),), ())), (Clause((("lives", (P, name("oslo")), NOW),), ()),))
PAID = Question((), (Clause((("pays", (P,), T),), (("less", T, NOW),)),), ())
PAIRS = Question((P, Q), (Clause((("lives", (P, R), NOW), ("lives", (Q, R), T)), (("unlike", P, Q), ("most", T, NOW))),), ())
ONE_HOME = Clause((("lives", (P, Q), T), ("lives", (P, R), T)), (("unlike", Q, R),))
PAID_ONCE = Clause((("pays", (P,), T), ("pays", (P,), U)), (("less", T, U),))


class OwnOffice:
    """What an office must do, of changes that have few days."""

    def __init__(self, rules, questions):
        self.rules, self.questions = rules, questions
        self.books = [{}]
        self.told = {}
        self.letters = []

    def answers(self, number, now, moment=-1):
        return tuple(answers_of(self.questions[number], self.books[moment], now))

    def ask(self, who, number, now):
        found = self.answers(number, now)
        self.told.setdefault((who, number, now), []).append((len(self.books) - 1, found))
        return found

    def told_at(self, who, number, now, moment):
        told = [found for since, found in self.told.get((who, number, now), ()) if since <= moment]
        return told[-1] if told else None

    def change(self, change):
        word, relation, names, first, last = change
        book = {fact: set(days) for fact, days in self.books[-1].items()}
        days = set(range(first, last + 1))
        here = book.get((relation, names), set())
        book[relation, names] = here | days if word == "set" else here - days
        if not keeps([(*fact, day) for fact in book for day in book[fact]], self.rules):
            return None
        self.books.append(book)
        letters = []
        for who, number, now in sorted(self.told):
            found = self.answers(number, now)
            if found != self.told[who, number, now][-1][1]:
                letters.append((len(self.letters), who, number, now, found))
                self.letters.append(letters[-1])
                self.told[who, number, now].append((len(self.books) - 1, found))
        return letters


def some_office(chance):
    """Rules and questions of an office."""
    if chance.random() < 0.3:
        return tight_rules(chance)[:1], [tight_question(chance) for _ in range(chance.choice([1, 2]))]
    if chance.random() < 0.5:
        return chance.choice([(), (ONE_HOME,), (ONE_HOME, PAID_ONCE)]), chance.sample([ROME, ALONE, PAID, PAIRS], 3)
    rules = some_rules(chance, RELATIONS, [0, 2, LAST], chance.choice([0, 0, 1, 2]))
    return rules, [some_question(chance, RELATIONS, [0, 1, 2, LAST]) for _ in range(chance.choice([1, 2, 3]))]


def some_change(chance):
    """A change of few days."""
    first, last = chance.choice([(0, 0), (0, 2), (1, 1), (1, 3), (2, 3), (LAST - 1, LAST), (LAST, LAST)])
    return chance.choice(["set", "set", "set", "clear"]), *chance.choice(FACTS), first, last


def some_ask(chance, questions):
    """Who asks what, and of which day."""
    return chance.choice(["ann", "bob", "mayor"]), chance.randrange(len(questions)), chance.choice(DAYS)
