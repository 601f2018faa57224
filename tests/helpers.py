"""What several tests use: rows told day by day, and things that are no integers, names or days."""

import random

LAST = 999999
RELATIONS = {"lives": 2, "pays": 1}
# Days near both ends: what goes wrong mostly goes wrong there.
DAYS = list(range(12)) + list(range(LAST - 11, LAST + 1))
NO_INTEGERS = [True, False, None, "1", "", 1.0, b"1", (), (1,), [1], {}, {1}, object(), int, float("nan")]
NO_NAMES = ["", "A", "1a", "abcdefghi", "a b", "a-b", "a_b", "aB", " a", "a\n", "\u00e9", "a\u00e9", "a\u0663", "\u0663",
            b"a", None, 1, True, ("a",), ["a"], {}, {"a"}, object(), str]
NO_DAYS = NO_INTEGERS + [-1, LAST + 1, 10 ** 30, -10 ** 30]
NO_SPANS = [None, True, 5, "ab", (), (1,), (1, 2, 3), [1, 2], (2, 1), (-1, 2), (0, LAST + 1), (True, 2), (0, True),
            (False, False), (1.0, 2), ("0", "1"), ((0, 1), (2, 3)), (None, None), {}, {1, 2}, object(), range(2),
            ([1], [2])]


def row_of(days):
    """The one form of a set of days, day by day."""
    row = []
    for day in sorted(days):
        if row and row[-1][1] == day - 1:
            row[-1] = (row[-1][0], day)
        else:
            row.append((day, day))
    return tuple(row)


def days_of(row):
    """The set of the days of a row, of few days."""
    return {day for first, last in row for day in range(first, last + 1)}


def is_row(row):
    """Whether it is a row of spans in its one form."""
    ends = [-2]
    for first, last in row:
        if not (ends[-1] + 1 < first <= last <= LAST):
            return False
        ends.append(last)
    return isinstance(row, tuple) and all(isinstance(span, tuple) for span in row)


def some_days(dice, days=DAYS):
    """Some of the days, few or many."""
    share = dice.random()
    return {day for day in days if dice.random() < share}


def some_book_days(dice, facts, days=DAYS):
    """A dict from some facts to sets of days, perhaps empty ones."""
    return {fact: some_days(dice, days) for fact in facts if dice.random() < 0.7}


def some_changes(dice, facts, many, days=DAYS):
    """Some changes of these facts between these days."""
    changes = []
    for _ in range(many):
        relation, names = dice.choice(facts)
        first, last = sorted([dice.choice(days), dice.choice(days)])
        changes.append((dice.choice(["set", "set", "clear"]), relation, names, first, last))
    return changes


def dice(number):
    """A source of chances that is the same at each run."""
    return random.Random(number)
