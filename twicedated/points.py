"""Points, a fact on a day each, that anybody hands in: whether they are a book."""

from twicedated.books import Book
from twicedated.relations import MOST_NAMES, are_names, is_day, is_name


def is_point(thing):
    """Whether anything is a point: (relation, names, day)."""
    if not isinstance(thing, tuple) or len(thing) != 3:
        return False
    relation, names, day = thing
    if not is_name(relation) or not isinstance(names, tuple) or not is_day(day):
        return False
    return 1 <= len(names) <= MOST_NAMES and are_names(names, len(names))


def are_points(thing):
    """Whether anything is a tuple of points."""
    return isinstance(thing, tuple) and all([is_point(point) for point in thing])


def book_of(points, told):
    """The book of some points; None unless they are of one mind with what is told of relations, and with one another,
    how many names these have."""
    relations = {relation: told[relation] for relation in told}
    rows = {}
    for relation, names, day in points:
        if relations.setdefault(relation, len(names)) != len(names):
            return None
        rows.setdefault((relation, names), []).append((day, day))
    return Book(relations, rows)
