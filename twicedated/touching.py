"""Whether a kind of correction can ever change the answers of a question, in whatever book that keeps the rules."""

from twicedated.answering import answers, is_legal
from twicedated.cases import touching_cases
from twicedated.errors import TooMany
from twicedated.kinds import check_kind, check_together, is_of_kind
from twicedated.points import are_points, book_of, is_point
from twicedated.relations import are_names, is_day
from twicedated.smallbooks import point_of, points_of, tree_or_worths
from twicedated.terms import NOW
from twicedated.trees import are_trees


def touching(question, rules, kind, most):
    """Touched, with a small book that shows it, or Untouched, with trees that do; BadQuestion, TooMany."""
    _relations_of(question, rules, kind)
    if most == 0:
        raise TooMany(most)
    trees = []
    for case, is_gain in touching_cases(question, rules, kind):
        tree, worths = tree_or_worths(case, most)
        if worths is not None:
            names = tuple([worths[term] for term in case.head])
            return Touched(points_of(case.facts, worths), point_of(case.x, worths), worths[NOW], names, is_gain)
        trees.append(tree)
    return Untouched(tuple(trees))


def _relations_of(question, rules, kind):
    """The dict of all relations of a question, rules and a kind to how many names they have; BadQuestion."""
    check_kind(kind)
    return check_together(question.clauses + question.unless, rules, {kind[0]: len(kind[1])})


class Touched:
    """Points of a small book, and one more that brings an answer, or takes it away, on the day now."""

    def __init__(self, points, point, now, names, is_gain):
        self.points = points
        self.point = point
        self.now = now
        self.names = names
        self.is_gain = is_gain

    def __eq__(self, other):
        if not isinstance(other, Touched):
            return False
        return (self.points == other.points and self.point == other.point and self.now == other.now
                and self.names == other.names and self.is_gain == other.is_gain)

    def __bool__(self):
        return True

    def shows(self, question, rules, kind):
        """Whether this is so: setting the point changes the answers, the rules being kept; BadQuestion."""
        relations = _relations_of(question, rules, kind)
        if not are_points(self.points) or not is_point(self.point) or not is_day(self.now):
            return False
        if not isinstance(self.is_gain, bool):
            return False
        if not is_of_kind(kind, self.point) or self.point in self.points:
            return False
        behind = book_of([*self.points, self.point], relations)
        if behind is None or not is_legal(behind, rules):
            return False
        ahead = book_of(self.points, relations)
        with_it, without_it = (behind, ahead) if self.is_gain else (ahead, behind)
        return _is_answer_of_one(question, with_it, without_it, self.now, self.names)


def _is_answer_of_one(question, one, other, now, names):
    """Whether anything is an answer in one book alone, not in another one."""
    if not are_names(names, len(question.head)):
        return False
    return names in answers(question, one, now) and names not in answers(question, other, now)


class Untouched:
    """Trees that tell of each case why it never comes about."""

    def __init__(self, trees):
        self.trees = trees

    def __eq__(self, other):
        return isinstance(other, Untouched) and self.trees == other.trees

    def __bool__(self):
        return False

    def shows(self, question, rules, kind):
        """Whether this is so: there is a tree for each case in turn; BadQuestion."""
        _relations_of(question, rules, kind)
        return are_trees([case for case, _ in touching_cases(question, rules, kind)], self.trees)
