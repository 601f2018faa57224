"""Trees that tell why a case never comes about, and their judge."""

from twicedated.cases import P_MARK, Q_MARK, X_DAY, x_name
from twicedated.matches import needed
from twicedated.orders import Known, can_hold
from twicedated.relations import MOST_NAMES, is_integer, is_name
from twicedated.terms import is_day_term, is_name_term, is_of_days, is_pair

CLASH = ("clash",)
MARK_LENGTH = 2
CONTRARY = {"same": "unlike", "unlike": "same", "less": "most", "most": "less"}


def ways_of(one, other):
    """The list of the tests by which two terms of one sort can be compared, in the order of a node's trees."""
    if is_of_days(one):
        return [("less", one, other), ("same", one, other), ("less", other, one)]
    return [("same", one, other), ("unlike", one, other)]


def tells_apart(test):
    """Whether a test tells that two days are unlike, but not which one is ahead."""
    return test[0] == "unlike" and is_of_days(test[1])


def _contrary(test):
    """The test that holds where a test doesn't."""
    word, one, other = test
    return (CONTRARY[word], one, other) if word in ("same", "unlike") else (CONTRARY[word], other, one)


def _is_marked(thing, sort, others):
    """Whether anything is a variable of a sort with a mark, or with one of these other names."""
    if not is_pair(thing, sort) or not isinstance(thing[1], str):
        return False
    variable = thing[1]
    return variable in others or variable[-MARK_LENGTH:] in (P_MARK, Q_MARK) and is_name(variable[:-MARK_LENGTH])


def _is_day(thing):
    """Whether anything is a term of days, with or without a mark."""
    return is_day_term(thing) or _is_marked(thing, X_DAY[0], X_DAY[1:])


def _is_name(thing):
    """Whether anything is a term of names, with or without a mark."""
    return is_name_term(thing) or _is_marked(thing, "any", [x_name(place) for place in range(MOST_NAMES)])


class Ground:
    """What is so at some place of a tree: the tests of the case and of all ways up to there."""

    def __init__(self, tests, known):
        self.tests = tests
        self.known = known

    def longer(self, test):
        """What is so if a test holds, too."""
        return Ground([*self.tests, test], self.known.more([test]))

    def fits_with(self, tests):
        """Whether what is so and some tests can hold together. Only days that are told to be unlike need trying out."""
        if not self.known.more(tests).fits():
            return False
        return not any([tells_apart(test) for test in self.tests]) or can_hold([*self.tests, *tests])

    def follows(self, test):
        """Whether a test holds wherever all that is so does."""
        return self.known.says(test) is True or not self.fits_with([_contrary(test)])


def is_tree(case, tree):
    """Whether anything is a tree that tells why a case never comes about. Trees wait in a list, as they may be deep."""
    waiting = [(tree, Ground(case.tests, Known(case.tests)))]
    while waiting:
        told, ground = waiting.pop()
        if not isinstance(told, tuple):
            return False
        if _is_node(told):
            one, other, trees = told
            waiting.extend([(smaller, ground.longer(test)) for test, smaller in zip(ways_of(one, other), trees)])
        elif not _is_leaf(case, told, ground):
            return False
    return True


def _is_node(told):
    """Whether a tuple is a node, as far as is seen without looking into its trees."""
    if len(told) != 3 or not isinstance(told[2], tuple):
        return False
    one, other, trees = told
    if _is_day(one) and _is_day(other):
        return len(trees) == 3
    return _is_name(one) and _is_name(other) and len(trees) == 2


def _is_leaf(case, told, ground):
    """Whether a tuple is a leaf that tells why what is so can't be."""
    if not told or not isinstance(told[0], str):
        return False
    if len(told) == 1:
        return told == CLASH and not ground.fits_with([])
    if len(told) != 3:
        return False
    word, number, rows = told
    for bar in case.bars:
        if bar.word == word:
            return _is_barred(case, bar, number, rows, ground)
    return False


def _is_barred(case, bar, number, rows, ground):
    """Whether by what is so a bar's clause with anybody's number matches its rows with anybody's numbers."""
    if not is_integer(number) or not 0 <= number < len(bar.clauses) or not isinstance(rows, tuple):
        return False
    if not all([is_integer(row) and 0 <= row < len(bar.rows) for row in rows]):
        return False
    clause = bar.clauses[number]
    if len(rows) != len(clause.atoms):
        return False
    tests = needed(clause, [bar.rows[row] for row in rows], bar.asked, case.head)
    return tests is not None and all([ground.follows(test) for test in tests])


def are_trees(cases, trees):
    """Whether anything is a tuple of trees, one for each of some cases in turn."""
    if not isinstance(trees, tuple) or len(trees) != len(cases):
        return False
    return all([is_tree(case, tree) for case, tree in zip(cases, trees)])
