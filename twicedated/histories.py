"""Histories: one change at each moment, and what was known when."""

from twicedated.books import Book, check_change
from twicedated.errors import BadMoment
from twicedated.layers import (blame_among, columns_among, does_set, known_days, layers_by_fact, layers_of,
                               moments_among, numbers_on, top_of)
from twicedated.relations import checked_relations, is_integer


def check_moment(moment, least, most):
    """BadMoment unless this is an integer between these."""
    if not is_integer(moment) or not least <= moment <= most:
        raise BadMoment(moment)


class History:
    """Changes, one at each moment 1, 2, ..; at moment 0 nothing is known."""

    def __init__(self, relations, changes):
        self.relations = checked_relations(relations)
        for change in changes:
            check_change(self.relations, change)
        self.changes = tuple(changes)

    def __eq__(self, other):
        return isinstance(other, History) and self.relations == other.relations and self.changes == other.changes

    def said(self, change):
        """The history with one more change; BadChange."""
        check_change(self.relations, change)
        longer = History(self.relations, ())
        longer.changes = self.changes + (change,)
        return longer

    def last_moment(self):
        """The moment of the last change, 0 without any."""
        return len(self.changes)

    def changes_up_to(self, moment):
        """The changes that were said by a moment; BadMoment."""
        check_moment(moment, 0, self.last_moment())
        return self.changes[:moment]

    def book_at(self, moment):
        """The book as it was known at a moment; BadMoment."""
        changes = self.changes_up_to(moment)
        found = layers_by_fact(changes)
        return Book(self.relations, {fact: known_days(changes, found[fact]) for fact in found})

    def facts(self):
        """The ascending list of all facts of changes."""
        return list(layers_by_fact(self.changes))

    def was_known(self, fact, day, moment):
        """Whether a fact was known on a day at a moment; BadMoment."""
        return does_set(self.changes, self.last_change(fact, day, moment))

    def last_change(self, fact, day, moment):
        """The number of the last change up to a moment that is of a fact and has a day, 0 without any; BadMoment."""
        return top_of(numbers_on(layers_of(self.changes_up_to(moment), fact), day))

    def moments_when(self, fact, day):
        """The longest (from, to) of moments at which a fact was known on a day, to None if it still is."""
        return moments_among(self.changes, numbers_on(layers_of(self.changes, fact), day))

    def columns(self, fact):
        """The (first day, last day, moments) of the longest stretches of days that were known at the same moments."""
        return columns_among(self.changes, layers_of(self.changes, fact))

    def blame(self, fact, day, moment):
        """The number of the last change up to a moment that made a difference to a fact on a day, or 0; BadMoment."""
        changes = self.changes_up_to(moment)
        return blame_among(changes, numbers_on(layers_of(changes, fact), day))


def is_among(moment, moments):
    """Whether a moment is in one of some (from, to)."""
    return any([since <= moment and (until is None or moment <= until) for since, until in moments])


def from_columns(relations, told, moment):
    """The book at a moment, out of a dict from facts to columns."""
    rows = {}
    for fact in told:
        rows[fact] = [(first, last) for first, last, moments in told[fact] if is_among(moment, moments)]
    return Book(relations, rows)
