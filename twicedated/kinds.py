"""Kinds of correction, and rules: what is told of wrong ones."""

from twicedated.askerrors import BadQuestion
from twicedated.questions import MOST_CLAUSES, Clause, minds
from twicedated.relations import MOST_NAMES, is_name
from twicedated.spans import is_span
from twicedated.terms import NOW


def is_rule(thing):
    """Whether anything is a rule: a clause without NOW."""
    if not isinstance(thing, Clause):
        return False
    days = [atom[2] for atom in thing.atoms]
    return NOW not in days and not any([NOW in test[1:] for test in thing.tests])


def check_rules(rules):
    """BadQuestion unless these are rules."""
    if not isinstance(rules, tuple) or len(rules) > MOST_CLAUSES or not all([is_rule(rule) for rule in rules]):
        raise BadQuestion("rules")


def _are_kind_names(thing):
    """Whether anything is a tuple of names, or None for any name."""
    if not isinstance(thing, tuple) or not 1 <= len(thing) <= MOST_NAMES:
        return False
    return all([name is None or is_name(name) for name in thing])


def check_kind(kind):
    """BadQuestion unless this is a kind of correction."""
    if not isinstance(kind, tuple) or len(kind) != 4:
        raise BadQuestion("kind")
    relation, names, first, last = kind
    if not is_name(relation) or not _are_kind_names(names) or not is_span((first, last)):
        raise BadQuestion("kind")


def is_of_kind(kind, point):
    """Whether a point is one that a kind corrects."""
    relation, names, first, last = kind
    if point[0] != relation or len(point[1]) != len(names) or not first <= point[2] <= last:
        return False
    return all([told is None or told == name for told, name in zip(names, point[1])])


def check_together(clauses, rules, told):
    """The dict of all relations to how many names they have, by what is told of them, by clauses and by rules;
    BadQuestion unless rules are right, and all are of one mind."""
    check_rules(rules)
    return minds([*clauses, *rules], told)
