"""What is so in all books that keep the rules: whether all answers of a question are another one's, too, whether it has
none at all, and whether a rule follows from others."""

from twicedated.answering import answers, is_legal
from twicedated.askerrors import BadQuestion
from twicedated.cases import follows_cases, never_cases, within_cases
from twicedated.errors import TooMany
from twicedated.kinds import check_together, is_rule
from twicedated.points import are_points, book_of
from twicedated.relations import are_names, is_day
from twicedated.smallbooks import points_of, tree_or_worths
from twicedated.terms import NOW
from twicedated.trees import are_trees


class Closed:
    """Trees that tell of each case why it never comes about."""

    def __init__(self, trees):
        self.trees = trees

    def __eq__(self, other):
        return isinstance(other, Closed) and self.trees == other.trees

    def __bool__(self):
        return True


class Found:
    """Points of a small book, a day that is asked of, and an answer."""

    def __init__(self, points, now, names):
        self.points = points
        self.now = now
        self.names = names

    def __eq__(self, other):
        if not isinstance(other, Found):
            return False
        return self.points == other.points and self.now == other.now and self.names == other.names

    def __bool__(self):
        return False


def within(question, other, rules, most):
    """Closed if in all legal books each answer of a question is one of another one's, too; else a Found of one that
    isn't. BadQuestion, TooMany."""
    _relations_within(question, other, rules)
    return _closed_or_found(within_cases(question, other, rules), most)


def never(question, rules, most):
    """Closed if a question has an answer in no legal book, else a Found of one; BadQuestion, TooMany."""
    _relations_never(question, rules)
    return _closed_or_found(never_cases(question, rules), most)


def follows(rule, rules, most):
    """Closed if all books that keep some rules keep another one, too, else a Found of one that doesn't; BadQuestion,
    TooMany."""
    _relations_follows(rule, rules)
    return _closed_or_found(follows_cases(rule, rules), most)


def _closed_or_found(cases, most):
    """Closed if no case comes about, else a Found of the first one that does; TooMany."""
    if most == 0:
        raise TooMany(most)
    trees = []
    for case in cases:
        tree, worths = tree_or_worths(case, most)
        if worths is not None:
            names = tuple([worths[term] for term in case.head])
            return Found(points_of(case.facts, worths), worths[NOW], names)
        trees.append(tree)
    return Closed(tuple(trees))


def _relations_within(question, other, rules):
    """The dict of all relations of questions and rules to how many names they have; BadQuestion."""
    if len(question.head) != len(other.head):
        raise BadQuestion("head")
    return check_together(question.clauses + question.unless + other.clauses + other.unless, rules, {})


def _relations_never(question, rules):
    """The dict of all relations of a question and rules to how many names they have; BadQuestion."""
    return check_together(question.clauses + question.unless, rules, {})


def _relations_follows(rule, rules):
    """The dict of all relations of a rule and rules to how many names they have; BadQuestion."""
    if not is_rule(rule):
        raise BadQuestion("rules")
    return check_together((rule,), rules, {})


def _found_book(told, relations, rules):
    """The book of a Found that anybody made; None if it is none, or isn't legal."""
    if not are_points(told.points):
        return None
    book = book_of(told.points, relations)
    return book if book is not None and is_legal(book, rules) else None


def _is_answer(question, book, told):
    """Whether a Found that anybody made tells a day that is asked of, and an answer on it."""
    if not is_day(told.now) or not are_names(told.names, len(question.head)):
        return False
    return told.names in answers(question, book, told.now)


def shows_within(question, other, rules, told):
    """Whether anything is such a Closed or Found as within tells; BadQuestion."""
    relations = _relations_within(question, other, rules)
    if isinstance(told, Closed):
        return are_trees(within_cases(question, other, rules), told.trees)
    if not isinstance(told, Found):
        return False
    book = _found_book(told, relations, rules)
    return book is not None and _is_answer(question, book, told) and not _is_answer(other, book, told)


def shows_never(question, rules, told):
    """Whether anything is such a Closed or Found as never tells; BadQuestion."""
    relations = _relations_never(question, rules)
    if isinstance(told, Closed):
        return are_trees(never_cases(question, rules), told.trees)
    if not isinstance(told, Found):
        return False
    book = _found_book(told, relations, rules)
    return book is not None and _is_answer(question, book, told)


def shows_follows(rule, rules, told):
    """Whether anything is such a Closed or Found as follows tells, of whatever day and names; BadQuestion."""
    relations = _relations_follows(rule, rules)
    if isinstance(told, Closed):
        return are_trees(follows_cases(rule, rules), told.trees)
    if not isinstance(told, Found):
        return False
    book = _found_book(told, relations, rules)
    return book is not None and not is_legal(book, (rule,))
