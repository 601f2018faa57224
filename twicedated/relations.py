"""Names, days, relations and facts."""

from twicedated.errors import BadRelations

LETTERS = "abcdefghijklmnopqrstuvwxyz"
FIGURES = "0123456789"
LONGEST_NAME = 8
LAST_DAY = 999999
MOST_NAMES = 4


def is_integer(thing):
    """Whether anything is an integer: True and False are none."""
    return isinstance(thing, int) and not isinstance(thing, bool)


def is_name(thing):
    """Whether anything is a name: 1 to 8 small letters and figures, a letter first."""
    if not isinstance(thing, str) or not 1 <= len(thing) <= LONGEST_NAME:
        return False
    if thing[0] not in LETTERS:
        return False
    return all([sign in LETTERS or sign in FIGURES for sign in thing])


def is_day(thing):
    """Whether anything is a day: an integer from 0 to 999,999."""
    return is_integer(thing) and 0 <= thing <= LAST_DAY


def are_names(thing, many):
    """Whether anything is a tuple of so many names."""
    if not isinstance(thing, tuple) or len(thing) != many:
        return False
    return all([is_name(name) for name in thing])


def is_fact(relations, thing):
    """Whether anything is a fact of these relations."""
    if not isinstance(thing, tuple) or len(thing) != 2:
        return False
    relation, names = thing
    if not is_name(relation) or relation not in relations:
        return False
    return are_names(names, relations[relation])


def checked_relations(relations):
    """A copy of relations, names ascending; BadRelations for the first wrong name."""
    for name in relations:
        many = relations[name]
        if not is_name(name) or not is_integer(many) or not 1 <= many <= MOST_NAMES:
            raise BadRelations(name)
    return {name: relations[name] for name in sorted(relations)}
