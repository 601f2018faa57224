"""Cases: what a small book would be like in which a change matters, or in which one thing is so and another one isn't.

A row is of the form of an atom: a relation, terms of names, a term of a day; it stands for one point of such a book.
Variables have marks, so that those of two clauses, and those of the change, are never the same ones by chance.
"""

from itertools import combinations

P_MARK = "-p"
Q_MARK = "-q"
X_DAY = ("when", "x-day")
BARRED = "barred"
KNOWN = "known"
UNDONE = "undone"


class Bar:
    """What a case can't be like: one of some clauses matches some rows, and what is asked of it, None if nothing is,
    is the head of the case there."""

    def __init__(self, word, clauses, rows, asked):
        self.word = word
        self.clauses = clauses
        self.rows = rows
        self.asked = asked


class Case:
    """Rows of facts; x, the row that is set, None without any; what a head is; tests that hold; and bars."""

    def __init__(self, facts, x, head, tests, bars):
        self.facts = facts
        self.x = x
        self.head = head
        self.tests = tests
        self.bars = bars

    def all_rows(self):
        """All rows, facts first."""
        return self.facts if self.x is None else [*self.facts, self.x]


def _marked(term, mark):
    """A term with a mark behind its variable's name; a constant and NOW have none."""
    return (term[0], term[1] + mark) if term[0] in ("any", "when") else term


def _marked_head(head, mark):
    """A head with marks."""
    return tuple([_marked(term, mark) for term in head])


def _marked_rows(clause, mark):
    """The list of the rows that the atoms of a clause are, with marks."""
    return [(relation, _marked_head(names, mark), _marked(day, mark)) for relation, names, day in clause.atoms]


def _marked_tests(clause, mark):
    """The list of the tests of a clause, with marks."""
    return [(word, _marked(one, mark), _marked(other, mark)) for word, one, other in clause.tests]


def _are_same(ones, others):
    """The list of the tests that tell that terms are the same, one by one."""
    return [("same", one, other) for one, other in zip(ones, others)]


def _are_one(rows, x):
    """The list of the tests that tell that some rows are x, term by term."""
    return [test for row in rows for test in _are_same([*row[1], row[2]], [*x[1], x[2]])]


def x_name(place):
    """The name of the variable of what is set, at a place where any name may stand."""
    return f"x-{place}"


def _x_of(kind):
    """The row of what is set, of a kind of correction."""
    relation, names, _, _ = kind
    terms = [("any", x_name(place)) if name is None else ("name", name) for place, name in enumerate(names)]
    return relation, tuple(terms), X_DAY


def _days_of(kind):
    """The list of the tests that hold of the day of what is set, of a kind of correction."""
    return [("most", ("day", kind[2]), X_DAY), ("most", X_DAY, ("day", kind[3]))]


def _lots(clause, relation):
    """The ascending list of the ascending tuples, none empty, of numbers of atoms of a relation."""
    numbers = [number for number, atom in enumerate(clause.atoms) if atom[0] == relation]
    return sorted([lot for many in range(1, len(numbers) + 1) for lot in combinations(numbers, many)])


def _split(rows, lot):
    """The list of the rows with numbers in a lot, and that of the others."""
    inside = [row for number, row in enumerate(rows) if number in lot]
    return inside, [row for number, row in enumerate(rows) if number not in lot]


def _gains(question, rules, kind):
    """The list of the cases in which what is set brings an answer."""
    x = _x_of(kind)
    head = _marked_head(question.head, P_MARK)
    cases = []
    for clause in question.clauses:
        rows = _marked_rows(clause, P_MARK)
        for lot in _lots(clause, kind[0]):
            inside, facts = _split(rows, lot)
            bars = [Bar(BARRED, rules, [*facts, x], None), Bar(KNOWN, question.clauses, facts, question.head),
                    Bar(UNDONE, question.unless, [*facts, x], question.head)]
            tests = _days_of(kind) + _marked_tests(clause, P_MARK) + _are_one(inside, x)
            cases.append(Case(facts, x, head, tests, bars))
    return cases


def _losses(question, rules, kind):
    """The list of the cases in which what is set takes an answer away."""
    x = _x_of(kind)
    head = _marked_head(question.head, P_MARK)
    heads = _are_same(head, _marked_head(question.head, Q_MARK))
    cases = []
    for clause in question.clauses:
        for barring in question.unless:
            rows = _marked_rows(barring, Q_MARK)
            for lot in _lots(barring, kind[0]):
                inside, outside = _split(rows, lot)
                facts = _marked_rows(clause, P_MARK) + outside
                bars = [Bar(BARRED, rules, [*facts, x], None), Bar(UNDONE, question.unless, facts, question.head)]
                tests = _days_of(kind) + _marked_tests(clause, P_MARK) + _marked_tests(barring, Q_MARK)
                cases.append(Case(facts, x, head, tests + heads + _are_one(inside, x), bars))
    return cases


def touching_cases(question, rules, kind):
    """The list of pairs of all cases in which a kind of correction touches a question, and whether it is a gain."""
    gains = [(case, True) for case in _gains(question, rules, kind)]
    return gains + [(case, False) for case in _losses(question, rules, kind)]


def _legal_case(facts, head, tests, question, rules):
    """The case in which a question has an answer by some facts."""
    bars = [Bar(BARRED, rules, facts, None), Bar(UNDONE, question.unless, facts, question.head)]
    return Case(facts, None, head, tests, bars)


def within_cases(question, other, rules):
    """The list of the cases in which a question has an answer that another one hasn't."""
    head = _marked_head(question.head, P_MARK)
    heads = _are_same(head, _marked_head(other.head, Q_MARK))
    cases = []
    for clause in question.clauses:
        rows = _marked_rows(clause, P_MARK)
        tests = _marked_tests(clause, P_MARK)
        case = _legal_case(rows, head, tests, question, rules)
        case.bars.append(Bar(KNOWN, other.clauses, rows, other.head))
        cases.append(case)
        for barring in other.unless:
            facts = rows + _marked_rows(barring, Q_MARK)
            both = tests + _marked_tests(barring, Q_MARK) + heads
            cases.append(_legal_case(facts, head, both, question, rules))
    return cases


def never_cases(question, rules):
    """The list of the cases in which a question has an answer."""
    head = _marked_head(question.head, P_MARK)
    return [_legal_case(_marked_rows(clause, P_MARK), head, _marked_tests(clause, P_MARK), question, rules)
            for clause in question.clauses]


def follows_cases(rule, rules):
    """The list of the one case in which a rule is broken and others are kept."""
    facts = _marked_rows(rule, P_MARK)
    return [Case(facts, None, (), _marked_tests(rule, P_MARK), [Bar(BARRED, rules, facts, None)])]
