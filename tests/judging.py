"""An own judge of trees, by the document alone: it makes the cases anew, walks each tree, compares and looks."""

import itertools

from asking import NOW, is_day_term, is_free
from helpers import LAST


class Case:
    """What a small book would be like: rows of facts, x, head, tests; bars: word to (clauses, rows, head asked)."""

    def __init__(self, facts, x, head, tests, bars):
        self.facts, self.x, self.head, self.tests, self.bars = facts, x, head, tests, bars


def mark(term, sign):
    """A term with a mark behind its variable's name."""
    return (term[0], term[1] + sign) if is_free(term) and term != NOW else term


def mark_all(terms, sign):
    """A tuple of terms with marks."""
    return tuple(mark(term, sign) for term in terms)


def mark_rows(clause, sign):
    """The rows that a clause's atoms are, with marks."""
    return [(relation, mark_all(names, sign), mark(hour, sign)) for relation, names, hour in clause.atoms]


def mark_tests(clause, sign):
    """A clause's tests, with marks."""
    return [(word, mark(one, sign), mark(other, sign)) for word, one, other in clause.tests]


def one_row(one, other):
    """That two rows are the same, term by term."""
    return [("same", here, there) for here, there in zip([*one[1], one[2]], [*other[1], other[2]])]


def lots(atoms, relation):
    """Not empty, ascending tuples, ascending."""
    numbers = [number for number, atom in enumerate(atoms) if atom[0] == relation]
    return sorted(lot for many in range(1, 4) for lot in itertools.combinations(numbers, many))


def touching_cases(question, rules, kind):
    """All cases of a kind of correction, gains first."""
    relation, names, first, last = kind
    hour = ("when", "x-day")
    x = (relation, tuple(("any", f"x-{place}") if name is None else ("name", name) for place, name in enumerate(names)), hour)
    days = [("most", ("day", first), hour), ("most", hour, ("day", last))]
    head = mark_all(question.head, "-p")
    found = []
    for clause in question.clauses:
        rows, tests = mark_rows(clause, "-p"), mark_tests(clause, "-p")
        for lot in lots(rows, relation):
            facts = [row for number, row in enumerate(rows) if number not in lot]
            same = [test for number in lot for test in one_row(rows[number], x)]
            found.append(Case(facts, x, head, days + tests + same, {
                "barred": (rules, facts + [x], None), "known": (question.clauses, facts, question.head),
                "undone": (question.unless, facts + [x], question.head)}))
    for clause, barring in itertools.product(question.clauses, question.unless):
        rows = mark_rows(barring, "-q")
        tests = mark_tests(clause, "-p") + mark_tests(barring, "-q")
        heads = [("same", one, other) for one, other in zip(head, mark_all(question.head, "-q"))]
        for lot in lots(rows, relation):
            facts = [*mark_rows(clause, "-p"), *[row for number, row in enumerate(rows) if number not in lot]]
            same = [test for number in lot for test in one_row(rows[number], x)]
            found.append(Case(facts, x, head, days + tests + heads + same, {
                "barred": (rules, facts + [x], None), "undone": (question.unless, facts, question.head)}))
    return found


def within_cases(question, other, rules):
    """All cases in which a question has an answer that the other one hasn't."""
    head = mark_all(question.head, "-p")
    found = []
    for clause in question.clauses:
        rows, tests = mark_rows(clause, "-p"), mark_tests(clause, "-p")
        found.append(Case(rows, None, head, tests, {
            "barred": (rules, rows, None), "undone": (question.unless, rows, question.head),
            "known": (other.clauses, rows, other.head)}))
        for barring in other.unless:
            facts = rows + mark_rows(barring, "-q")
            heads = [("same", one, two) for one, two in zip(head, mark_all(other.head, "-q"))]
            found.append(Case(facts, None, head, tests + mark_tests(barring, "-q") + heads, {
                "barred": (rules, facts, None), "undone": (question.unless, facts, question.head)}))
    return found


def never_cases(question, rules):
    """All cases in which a question has an answer."""
    found = []
    for clause in question.clauses:
        rows = mark_rows(clause, "-p")
        found.append(Case(rows, None, mark_all(question.head, "-p"), mark_tests(clause, "-p"), {
            "barred": (rules, rows, None), "undone": (question.unless, rows, question.head)}))
    return found


def follows_cases(rule, rules):
    """The one case in which a rule is broken, and others are kept."""
    rows = mark_rows(rule, "-p")
    return [Case(rows, None, (), mark_tests(rule, "-p"), {"barred": (rules, rows, None)})]


def ways(one, other):
    """The tests by which two terms are compared."""
    if is_day_term(one):
        return [("less", one, other), ("same", one, other), ("less", other, one)]
    return [("same", one, other), ("unlike", one, other)]


def contrary(test):
    """What holds where a test doesn't."""
    word, one, other = test
    return {"less": ("most", other, one), "most": ("less", other, one), "same": ("unlike", one, other),
            "unlike": ("same", one, other)}[word]


def names_hold(tests):
    """Whether tests of names can hold together: they're melted until nothing changes."""
    groups = [{one, other} for word, one, other in tests if word == "same"] + [{term} for test in tests for term in test[1:]]
    melted = []
    for group in groups:
        near = [known for known in melted if known & group]
        melted = [known for known in melted if not known & group] + [group.union(*near)]
    if any(len({term for term in group if not is_free(term)}) > 1 for group in melted):
        return False
    return not any({one, other} <= group for word, one, other in tests if word == "unlike" for group in melted)


def days_hold(tests):
    """Whether tests of days, none unlike, can hold together: by sums of differences round rings."""
    terms = sorted({term for test in tests for term in test[1:]})
    edges = [("first", "first", 0)]
    for word, one, other in tests:
        edges += [(one, other, 1 if word == "less" else 0)] + ([(other, one, 0)] if word == "same" else [])
    for term in terms:
        low, high = (term[1], term[1]) if term[0] == "day" else (0, LAST)
        edges += [("first", term, low), (term, "first", -high)]
    least = {term: 0 for term in [*terms, "first"]}
    for _ in range(len(least) + 1):
        changed = False
        for one, other, gap in edges:
            if least[one] + gap > least[other]:
                least[other], changed = least[one] + gap, True
        if not changed:
            return True
    return False


def hold(tests):
    """Whether tests can hold together, exactly: days that are unlike are tried in both orders."""
    if not names_hold([test for test in tests if not is_day_term(test[1])]):
        return False
    days = [test for test in tests if is_day_term(test[1])]
    apart = [test for test in days if test[0] == "unlike"]
    plain = [test for test in days if test[0] != "unlike"]
    return any(days_hold(plain + [("less", *order) for order in orders])
               for orders in itertools.product(*[((one, other), (other, one)) for _, one, other in apart]))


class Judge:
    """Walks trees. A strict one uses days that are told to be unlike only where both are compared, and lets no bar
    be told where all clashes; one that isn't strict sees all that follows, and lets bars be told there."""

    def __init__(self, is_strict):
        self.is_strict = is_strict

    def clashes(self, tests):
        """Whether tests can't hold together."""
        if not self.is_strict:
            return not hold(tests)
        plain = [test for test in tests if test[0] != "unlike" or not is_day_term(test[1])]
        apart = [test for test in tests if test not in plain]
        return not hold(plain) or any(self.follows(plain, ("same", one, other)) for _, one, other in apart)

    def follows(self, tests, test):
        """Whether a test holds wherever all tests do."""
        if self.is_strict:
            tests = [told for told in tests if told[0] != "unlike" or not is_day_term(told[1])]
        if test[0] == "unlike" and is_day_term(test[1]):
            return not hold(tests + [contrary(test)])
        if test[0] == "same" and is_day_term(test[1]):
            return all(not hold(tests + [("less", *order)]) for order in (test[1:], test[:0:-1]))
        return not hold(tests + [contrary(test)])

    def is_bar(self, case, leaf, tests):
        """Whether a leaf's clause matches its rows by what is so."""
        word, number, numbers = leaf
        if word not in case.bars or not isinstance(number, int) or not isinstance(numbers, tuple):
            return False
        clauses, rows, asked = case.bars[word]
        if not 0 <= number < len(clauses) or not all(isinstance(row, int) and 0 <= row < len(rows) for row in numbers):
            return False
        clause = clauses[number]
        if len(numbers) != len(clause.atoms):
            return False
        worth, needs = {}, []
        for (relation, names, hour), row in zip(clause.atoms, [rows[row] for row in numbers]):
            if relation != row[0]:
                return False
            for term, told in zip([*names, hour], [*row[1], row[2]]):
                here = worth.setdefault(term, told) if is_free(term) and term != NOW else term
                needs.append(("same", here, told))
        needs += [(sign, worth.get(one, one), worth.get(other, other)) for sign, one, other in clause.tests]
        needs += [("same", worth[term], told) for term, told in zip(asked or (), case.head)]
        if not hold(tests):
            return not self.is_strict
        return all(self.follows(tests, test) for test in needs)

    def walk(self, case, tree, tests):
        """Whether a tree tells why a case never comes about."""
        if tree == ("clash",):
            return self.clashes(tests)
        if not isinstance(tree, tuple) or len(tree) != 3:
            return False
        if isinstance(tree[0], str):
            return self.is_bar(case, tree, tests)
        one, other, trees = tree
        if is_day_term(one) != is_day_term(other) or len(trees) != len(ways(one, other)):
            return False
        return all(self.walk(case, smaller, tests + [way]) for way, smaller in zip(ways(one, other), trees))

    def are_trees(self, cases, trees):
        """Whether there is a tree for each case in turn."""
        return len(trees) == len(cases) and all(self.walk(case, tree, case.tests) for case, tree in zip(cases, trees))


STRICT = Judge(True)
LENIENT = Judge(False)
