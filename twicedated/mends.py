"""Mends: the fewest elder facts on days that must be cleared so that a change breaks no rule."""

from twicedated.answering import matches
from twicedated.books import SET, Book
from twicedated.errors import TooMany
from twicedated.meeting import fewest_meeting, is_fewest_meeting


def mend(book, rules, change, most):
    """The fewest elder points that must be cleared, and a tree that shows it; None if no clearing does.

    BadChange; TooMany.
    """
    return fewest_meeting(_lots(book, rules, change, most), most)


def is_mend(book, rules, change, points, tree, most):
    """Whether clearing anybody's points lets a change keep the rules, and anybody's tree shows that fewer don't do.

    BadChange; TooMany.
    """
    return is_fewest_meeting(_lots(book, rules, change, most), points, tree)


def mended(book, change, points):
    """The book behind clearing points, and then a change; BadChange."""
    rows = {}
    for relation, names, day in points:
        rows.setdefault((relation, names), []).append((day, day))
    return book.without(Book(book.relations, rows)).changed(change)


def _lots(book, rules, change, most):
    """The ascending list of the unlike lots of elder points of all matches behind a change; BadChange, TooMany."""
    behind = book.changed(change)
    if most == 0:
        raise TooMany(most)
    lots = {}
    for rule in rules:
        for points in matches(rule, behind, most):
            lots[tuple(sorted(set([point for point in points if not _does_set(change, point)])))] = True
    return sorted(lots)


def _does_set(change, point):
    """Whether a change sets a point."""
    relation, names, day = point
    word, changed_relation, changed_names, first, last = change
    return word == SET and (relation, names) == (changed_relation, changed_names) and first <= day <= last
