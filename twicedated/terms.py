"""Terms of names and of days, and tests, which compare two of them."""

from twicedated.relations import is_day, is_name

NOW = ("now",)
DAY_WORDS = ("less", "most", "same", "unlike")
NAME_WORDS = ("same", "unlike")


def is_pair(thing, mark):
    """Whether anything is a pair of this mark and something."""
    return isinstance(thing, tuple) and len(thing) == 2 and isinstance(thing[0], str) and thing[0] == mark


def is_variable_name(thing):
    """Whether anything is a variable of names."""
    return is_pair(thing, "any") and is_name(thing[1])


def is_name_term(thing):
    """Whether anything is a term of names."""
    return is_variable_name(thing) or is_pair(thing, "name") and is_name(thing[1])


def is_variable_day(thing):
    """Whether anything is a variable of days; NOW is none."""
    return is_pair(thing, "when") and is_name(thing[1])


def is_now(thing):
    """Whether anything is NOW."""
    return isinstance(thing, tuple) and len(thing) == 1 and isinstance(thing[0], str) and thing == NOW


def is_day_term(thing):
    """Whether anything is a term of days."""
    return is_now(thing) or is_variable_day(thing) or is_pair(thing, "day") and is_day(thing[1])


def is_test(thing):
    """Whether anything is a test: a word that lets its two terms be compared, both of one sort."""
    if not isinstance(thing, tuple) or len(thing) != 3 or not isinstance(thing[0], str):
        return False
    word, one, other = thing
    if is_day_term(one) and is_day_term(other):
        return word in DAY_WORDS
    return is_name_term(one) and is_name_term(other) and word in NAME_WORDS


def is_of_days(term):
    """Whether a term is one of days, not of names."""
    return term[0] not in ("name", "any")


def tests_of_days(tests):
    """Those of some tests that compare days, in their order."""
    return [test for test in tests if is_of_days(test[1])]


def tests_of_names(tests):
    """Those of some tests that compare names, in their order."""
    return [test for test in tests if not is_of_days(test[1])]


def terms_of(tests):
    """The unlike terms of some tests, in the order in which they stand there."""
    return list({term: True for test in tests for term in test[1:]})
