"""A history as though some changes had never been said: which ones decide, and which ones matter."""

from twicedated.histories import History, check_moment
from twicedated.layers import does_set, layers_by_fact, layers_of, longest, stretches, top_of, topmost


def without_changes(history, numbers):
    """The history without the changes with these numbers; BadMoment."""
    for number in numbers:
        check_moment(number, 1, history.last_moment())
    gone = set(numbers)
    left = [change for number, change in enumerate(history.changes, start=1) if number not in gone]
    return History(history.relations, left)


def decided(history, fact):
    """The (first, last, number) over all days of the last change of a fact that has them, 0 without any."""
    return longest(topmost(layers_of(history.changes, fact)))


def deciders(history):
    """The ascending list of the numbers of all changes that are the last ones for some fact on some day."""
    found = set()
    by_fact = layers_by_fact(history.changes)
    for fact in by_fact:
        for _, _, number in topmost(by_fact[fact]):
            if number > 0:
                found.add(number)
    return sorted(found)


def condensed(history):
    """The history of the changes that decide alone, in their order."""
    return History(history.relations, [history.changes[number - 1] for number in deciders(history)])


def _mattering(changes, layers):
    """The numbers of layers without which some day would be otherwise: a day hangs on the two topmost ones alone."""
    found = set()
    for _, _, over in stretches(layers):
        if does_set(changes, top_of(over)) != does_set(changes, top_of(over[:-1])):
            found.add(over[-1])
    return sorted(found)


def does_matter(history, number):
    """Whether the last book would be another one if this change alone had never been said; BadMoment."""
    check_moment(number, 1, history.last_moment())
    layers = layers_of(history.changes, history.changes[number - 1][1:3])
    return number in _mattering(history.changes, layers)


def idle(history):
    """The ascending list of the numbers of the changes that don't matter."""
    matter = set()
    by_fact = layers_by_fact(history.changes)
    for fact in by_fact:
        for number in _mattering(history.changes, by_fact[fact]):
            matter.add(number)
    return [number for number in range(1, history.last_moment() + 1) if number not in matter]
