"""Offices: they keep a book and rules, answer, and send letters to those whose answers aren't so any more."""

from twicedated.answering import answers, is_legal, timelines
from twicedated.askerrors import BadAsk
from twicedated.books import SET, check_change, empty_book
from twicedated.histories import History, check_moment
from twicedated.kinds import check_together
from twicedated.questions import Question
from twicedated.relations import is_day, is_integer, is_name
from twicedated.spans import has
from twicedated.touching import touching

# Of more days than these it is faster to tell the answers of all days at once.
FEW_DAYS = 3


def _check_questions(relations, rules, questions):
    """BadQuestion unless rules are right, and all are of one mind; BadAsk for the first thing that is no question."""
    right = [question for question in questions if isinstance(question, Question)]
    check_together([clause for question in right for clause in question.clauses + question.unless], rules, relations)
    for question in questions:
        if not isinstance(question, Question):
            raise BadAsk(question)


class Office:
    """A history, questions, and what was told to whom."""

    def __init__(self, relations, rules, questions, most):
        self.history = History(relations, ())
        _check_questions(self.history.relations, rules, questions)
        self.rules = rules
        self.questions = tuple(questions)
        self.most = most
        self.sent = 0
        self.looked = 0
        self.book = empty_book(self.history.relations)
        # (who, number, now) to the list of (moment, answers) that were told, only such as were unlike those ahead.
        self.told = {}
        # (number, kind) to whether the kind touches the question: changes of one kind may come often.
        self.touched = {}

    def has_question(self, number, now):
        """Whether anything is the number of a question, and anything else a day."""
        return is_integer(number) and 0 <= number < len(self.questions) and is_day(now)

    def _check_ask(self, number, now):
        """BadAsk for the first one that is none: the number of a question, a day."""
        if not is_integer(number) or not 0 <= number < len(self.questions):
            raise BadAsk(number)
        if not is_day(now):
            raise BadAsk(now)

    def _check_who(self, who, number, now):
        """BadAsk for the first one that is none: a name, the number of a question, a day."""
        if not is_name(who):
            raise BadAsk(who)
        self._check_ask(number, now)

    def answers(self, number, now):
        """The tuple of the answers of a question by what is known; BadAsk."""
        self._check_ask(number, now)
        return tuple(answers(self.questions[number], self.book, now))

    def answers_at(self, number, now, moment):
        """The tuple of the answers of a question by what was known at a moment; BadAsk, BadMoment."""
        self._check_ask(number, now)
        return tuple(answers(self.questions[number], self.history.book_at(moment), now))

    def ask(self, who, number, now):
        """The answers of a question, told to somebody; BadAsk."""
        self._check_who(who, number, now)
        found = self.answers(number, now)
        self._tell((who, number, now), found)
        return found

    def _tell(self, key, found):
        """Answers are told to somebody at the last moment."""
        told = self.told.setdefault(key, [])
        if not told or told[-1][1] != found:
            told.append((self.history.last_moment(), found))

    def last_told(self, who, number, now):
        """The answers that were told to somebody last, None without any; BadAsk."""
        self._check_who(who, number, now)
        told = self.told.get((who, number, now), [])
        return told[-1][1] if told else None

    def told_at(self, who, number, now, moment):
        """The answers that had been told to somebody last at a moment, None without any; BadAsk, BadMoment."""
        self._check_who(who, number, now)
        check_moment(moment, 0, self.history.last_moment())
        told = [found for since, found in self.told.get((who, number, now), []) if since <= moment]
        return told[-1] if told else None

    def change(self, change):
        """The list of the letters that a change brings, once it is known; None if the rules wouldn't be kept behind it,
        so that nothing is done. BadChange."""
        behind = self.book.changed(change)
        # Clearing breaks no rule: what matches less still matched ahead.
        if change[0] == SET and not is_legal(behind, self.rules):
            return None
        keys = [key for key in sorted(self.told) if self.can_touch(key[1], change)]
        self.history = self.history.said(change)
        self.book = behind
        self.looked += len(keys)
        return self._letters(keys)

    def _letters(self, keys):
        """The list of the letters to those, of some, to whom other answers were told than there are now."""
        days = {}
        for _, number, now in keys:
            days.setdefault(number, {})[now] = True
        found = {number: self._answers_on(number, list(days[number])) for number in days}
        letters = []
        for key in keys:
            who, number, now = key
            if found[number][now] != self.told[key][-1][1]:
                letters.append((self.sent, who, number, now, found[number][now]))
                self.sent += 1
                self._tell(key, found[number][now])
        return letters

    def _answers_on(self, number, days):
        """The dict from some days to the answers of a question."""
        if len(days) <= FEW_DAYS:
            return {now: self.answers(number, now) for now in days}
        rows = timelines(self.questions[number], self.book)
        return {now: tuple([names for names in rows if has(rows[names], now)]) for now in days}

    def can_touch(self, number, change):
        """Whether the kind of a change touches a question; BadAsk, BadChange."""
        self._check_ask(number, 0)
        check_change(self.history.relations, change)
        kind = change[1:]
        if (number, kind) not in self.touched:
            self.touched[(number, kind)] = bool(touching(self.questions[number], self.rules, kind, self.most))
        return self.touched[(number, kind)]
