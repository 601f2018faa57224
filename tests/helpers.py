"""What several tests use: rows told day by day, and things that are no integers, names or days."""

import random

LAST = 999999
RELATIONS = {"lives": 2, "pays": 1}
# Days near both ends: what goes wrong mostly goes wrong there.
DAYS = list(range(12)) + list(range(LAST - 11, LAST + 1))
NO_INTEGERS = [True, False, None, "1", "", 1.0, b"1", (), (1,), [1], {}, {1}, object(), int, float("nan")]
NO_NAMES = ["", "A", "1a", "abcdefghi", "a b", "a-b", "a_b", "aB", " a", "a\n", "\u00e9", "a\u00e9", "a\u0663", "\u0663",
            b"a", None, 1, True, ("a",), ["a"], {}, {"a"}, object(), str]
NO_DAYS = NO_INTEGERS + [-1, LAST + 1, 10 ** 30, -10 ** 30]
NO_SPANS = [None, True, 5, "ab", (), (1,), (1, 2, 3), [1, 2], (2, 1), (-1, 2), (0, LAST + 1), (True, 2), (0, True),
            (False, False), (1.0, 2), ("0", "1"), ((0, 1), (2, 3)), (None, None), {}, {1, 2}, object(), range(2),
            ([1], [2])]


def row_of(days):
    """The one form of a set of days, day by day."""
    row = []
    for day in sorted(days):
        if row and row[-1][1] == day - 1:
            row[-1] = (row[-1][0], day)
        else:
            row.append((day, day))
    return tuple(row)


def days_of(row):
    """The set of the days of a row, of few days."""
    return {day for first, last in row for day in range(first, last + 1)}


def is_row(row):
    """Whether it is a row of spans in its one form."""
    ends = [-2]
    for first, last in row:
        if not (ends[-1] + 1 < first <= last <= LAST):
            return False
        ends.append(last)
    return isinstance(row, tuple) and all(isinstance(span, tuple) for span in row)


def some_days(dice, days=DAYS):
    """Some of the days, few or many."""
    share = dice.random()
    return {day for day in days if dice.random() < share}


def some_book_days(dice, facts, days=DAYS):
    """A dict from some facts to sets of days, perhaps empty ones."""
    return {fact: some_days(dice, days) for fact in facts if dice.random() < 0.7}


def some_changes(dice, facts, many, days=DAYS):
    """Some changes of these facts between these days."""
    changes = []
    for _ in range(many):
        relation, names = dice.choice(facts)
        first, last = sorted([dice.choice(days), dice.choice(days)])
        changes.append((dice.choice(["set", "set", "clear"]), relation, names, first, last))
    return changes


# Changes between the days above are alike on all days of each of these blocks.
BLOCKS = [(day, day) for day in DAYS[:12]] + [(12, LAST - 12)] + [(day, day) for day in DAYS[12:]]


def put_together(rows):
    """Ascending rows (first, last, thing) without gaps in between: neighbours with the same thing put together."""
    told = []
    for first, last, thing in rows:
        if told and told[-1][2] == thing and told[-1][1] + 1 == first:
            told[-1] = (told[-1][0], last, thing)
        else:
            told.append((first, last, thing))
    return tuple(told)


def row_where(is_so):
    """The row of the blocks of which a test of their first day is so."""
    return tuple((first, last) for first, last, so in put_together([(a, b, is_so(a)) for a, b in BLOCKS]) if so)


class Reading:
    """What was known of each fact on each day at each moment, by reading the changes one by one."""

    def __init__(self, facts, changes):
        self.facts = facts
        self.known = [{(fact, day): False for fact in facts for day, _ in BLOCKS}]
        self.blames = [{key: 0 for key in self.known[0]}]
        self.lasts = [{key: 0 for key in self.known[0]}]
        for number, (word, relation, names, first, last) in enumerate(changes, start=1):
            known, blames, lasts = dict(self.known[-1]), dict(self.blames[-1]), dict(self.lasts[-1])
            for day, _ in BLOCKS:
                key = ((relation, names), day)
                if first <= day <= last:
                    lasts[key] = number
                    if known[key] != (word == "set"):
                        blames[key] = number
                    known[key] = word == "set"
            self.known.append(known)
            self.blames.append(blames)
            self.lasts.append(lasts)

    def row(self, fact, moment):
        """The row of the days on which a fact was known."""
        return row_where(lambda day: self.known[moment][fact, day])

    def rows(self, moment):
        """What the rows of the book at a moment must be."""
        return {fact: self.row(fact, moment) for fact in sorted(self.facts) if self.row(fact, moment)}

    def moments(self, fact, day):
        """The longest (from, to) at which a fact was known on a day."""
        told = []
        for moment, known in enumerate(self.known):
            if known[fact, day] and not self.known[moment - 1][fact, day]:
                told.append((moment, None))
            elif moment and not known[fact, day] and self.known[moment - 1][fact, day]:
                told[-1] = (told[-1][0], moment - 1)
        return tuple(told)


def dice(number):
    """A source of chances that is the same at each run."""
    return random.Random(number)
