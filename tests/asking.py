"""What several tests of questions use: terms and tests of all sorts, and matches found by trying everything."""

from helpers import LAST, NO_DAYS, NO_NAMES
from twicedated.questions import Clause, Question

NOW = ("now",)
NO_TERMS = [None, 5, True, "any", "now", (), ("any",), ("name",), ("day",), ("when",), ("now", "a"), ("any", "a", "b"),
            ["any", "a"], ["now"], ("Any", "a"), ("x", "a"), (5, "a"), (None, "a"), (("any",), "a"), (["any"], "a"), {},
            {"any": "a"}, object(), ("Now",), (None,), (["now"],), "ab", b"ab"]
NO_NAME_TERMS = (NO_TERMS + [NOW, ("day", 5), ("when", "t"), ("any", "x-0"), ("any", "p-p")]
                 + [(word, thing) for word in ("any", "name") for thing in NO_NAMES])
NO_DAY_TERMS = (NO_TERMS + [("any", "p"), ("name", "ann"), ("when", "x-day"), ("day", "a"), ("when", 5)]
                + [("when", thing) for thing in NO_NAMES] + [("day", thing) for thing in NO_DAYS])
# Terms of two words, of which none can be compared with one of another sort.
NO_TESTS = [None, 5, "less", (), ("less",), ("less", NOW), ("less", NOW, NOW, NOW), ["less", NOW, NOW], ("Less", NOW, NOW),
            ("over", NOW, NOW), (5, NOW, NOW), (None, NOW, NOW), (["less"], NOW, NOW), ("less", NOW, ("any", "p")),
            ("same", ("any", "p"), NOW), ("less", ("any", "p"), ("any", "p")), ("most", ("any", "p"), ("name", "ann")),
            ("unlike", ("name", "ann"), ("day", 5)), ("", NOW, NOW), {}, object()]


def any_(name):
    """A variable of names."""
    return "any", name


def name(word):
    """A name as a term."""
    return "name", word


def when(word):
    """A variable of days."""
    return "when", word


def day(number):
    """A day as a term."""
    return "day", number


def holds(test, worth):
    """Whether a test holds by the worths of terms."""
    word, one, other = test
    here, there = worth[one], worth[other]
    return {"less": lambda: here < there, "most": lambda: here <= there, "same": lambda: here == there,
            "unlike": lambda: here != there}[word]()


def is_day_term(term):
    """Whether a term is one of days."""
    return term[0] in ("day", "when", "now")


def is_free(term):
    """Whether a term is no constant."""
    return term[0] in ("any", "when", "now")


def worths(terms, tests, days, names, rows=({},)):
    """All dicts from terms to some of these days and names by which all tests hold, by trying all; rows: for others."""
    rows = list(rows)
    for term in sorted(dict.fromkeys(terms), key=is_free):
        tried = [term[1]] if not is_free(term) else days if is_day_term(term) else names
        here = [test for test in tests if term in test[1:]]
        longer = [{**row, term: thing} for row in rows for thing in tried]
        rows = [row for row in longer if all(holds(test, row) for test in here if test[1] in row and test[2] in row)]
    return rows


def days_by_fact(book, days):
    """The dict of the facts of a book to the sets of those of some days on which they are so."""
    return {fact: {number for number in days if any(first <= number <= last for first, last in row)}
            for fact, row in book.rows.items()}


def put(worth, term, thing):
    """Whether a term can be a thing, by the worths of others; if so it is put to them."""
    if not is_free(term):
        return term[1] == thing
    return worth.setdefault(term, thing) == thing


def matches_of(clause, known, now):
    """All matches of a clause, by trying all facts and days: pairs of the worths of its terms and the points."""
    rows = [({NOW: now}, ())]
    for relation, terms, hour in clause.atoms:
        longer = []
        for worth, points in rows:
            for (word, names), days in known.items():
                for number in days if word == relation and len(names) == len(terms) else ():
                    more = dict(worth)
                    if all(put(more, term, thing) for term, thing in [*zip(terms, names), (hour, number)]):
                        longer.append((more, points + ((word, names, number),)))
        rows = longer
    constants = {term: term[1] for test in clause.tests for term in test[1:] if not is_free(term)}
    return [(worth, points) for worth, points in rows
            if all(holds(test, {**worth, **constants}) for test in clause.tests)]


def heads_of(question, clauses, known, now):
    """What the head of a question is by some match of one of these clauses."""
    return {tuple(worth[term] for term in question.head)
            for clause in clauses for worth, _ in matches_of(clause, known, now)}


def answers_of(question, known, now):
    """The answers of a question, by trying all."""
    return sorted(heads_of(question, question.clauses, known, now) - heads_of(question, question.unless, known, now))


def some_atom(chance, relations, numbers, has_now):
    """An atom of one of these relations, of few variables, and of names and days now and then."""
    relation = chance.choice(sorted(relations))
    terms = tuple(name(chance.choice(["ann", "bob", "rome"])) if chance.random() < 0.2 else any_(chance.choice("pq"))
                  for _ in range(relations[relation]))
    sorts = [when(word) for word in "ttuuv"] + [day(chance.choice(numbers))] + [NOW] * (3 if has_now else 0)
    return relation, terms, chance.choice(sorts)


def some_clause(chance, relations, numbers, has_now=True, head=()):
    """A clause; the variables of a head all stand in it."""
    while True:
        atoms = tuple(some_atom(chance, relations, numbers, has_now) for _ in range(chance.choice([1, 1, 2, 2, 3])))
        free = [term for _, terms, last in atoms for term in (*terms, last)]
        if all(term in free for term in head):
            break
    days = [term for term in free if is_day_term(term)] + [day(chance.choice(numbers))] + ([NOW] if has_now else [])
    names = [term for term in free if not is_day_term(term)] + [name("ann")]
    tests = []
    for _ in range(chance.choice([0, 0, 1, 1, 2, 3])):
        if chance.random() < 0.7:
            word, sort = chance.choice(["less", "most", "same", "unlike", "unlike", "less"]), days
        else:
            word, sort = chance.choice(["same", "unlike", "unlike"]), names
        tests.append((word, chance.choice(sort), chance.choice(sort)))
    return Clause(atoms, tuple(tests))


def some_question(chance, relations, numbers):
    """A question of one or two clauses, sometimes with unless."""
    head = chance.choice([(), (any_("p"),), (any_("p"),), (any_("p"), any_("p")), (any_("q"), any_("p"))])
    clauses = tuple(some_clause(chance, relations, numbers, head=head) for _ in range(chance.choice([1, 1, 2])))
    unless = tuple(some_clause(chance, relations, numbers, head=head) for _ in range(chance.choice([0, 0, 1, 2])))
    return Question(head, clauses, unless)


def some_rules(chance, relations, numbers, many):
    """Some rules."""
    return tuple(some_clause(chance, relations, numbers, has_now=False) for _ in range(many))


def some_kind(chance, relations, numbers):
    """A kind of correction."""
    relation = chance.choice(sorted(relations))
    names = tuple(chance.choice([None, None, "ann", "rome"]) for _ in range(relations[relation]))
    return relation, names, *sorted([chance.choice(numbers), chance.choice(numbers)])


def tight_clause(chance, many, has_now=True, head=()):
    """A clause of facts of one relation of one name, with many tests: there many bars are near each other."""
    while True:
        atoms = tuple(("pays", (any_(chance.choice("pqrsw")),), NOW if has_now and chance.random() < 0.25 else
                       when(chance.choice("tuv"))) for _ in range(many))
        if all(term in [atom[1][0] for atom in atoms] for term in head):
            break
    days = [atom[2] for atom in atoms] + ([NOW] if has_now else [])
    names = [atom[1][0] for atom in atoms]
    worth = {term: chance.randrange(4) for term in days + names}
    tests = []
    for _ in range(chance.randrange(20)):
        word, sort = chance.choice([("less", days), ("most", days), ("same", days), ("unlike", days), ("same", names),
                                    ("unlike", names), ("unlike", names)])
        one, other = chance.choice(sort), chance.choice(sort)
        # Only such as hold at once, or nothing would ever match.
        if one != other and len(tests) < 6 and holds((word, one, other), worth):
            tests.append((word, one, other))
    return Clause(atoms, tuple(tests))


def tight_question(chance):
    """A question of such clauses."""
    head = chance.choice([(), (any_("p"),)])
    clauses = tuple(tight_clause(chance, chance.choice([1, 2, 3]), head=head) for _ in range(chance.choice([1, 2, 3])))
    unless = tuple(tight_clause(chance, chance.choice([2, 3]), head=head) for _ in range(chance.choice([0, 1, 2])))
    return Question(head, clauses, unless)


def tight_rules(chance):
    """Rules of such clauses that let one point be by itself."""
    rules = []
    while len(rules) < 3:
        rule = tight_clause(chance, chance.choice([2, 2, 3]), has_now=False)
        if keeps([("pays", ("ann",), 5)], (rule,)):
            rules.append(rule)
    return tuple(rules[chance.choice([0, 0, 1]):])


def known_by(points):
    """The dict of facts to sets of days of some points."""
    known = {}
    for relation, names, number in points:
        known.setdefault((relation, names), set()).add(number)
    return known


def keeps(points, rules):
    """Whether no rule matches some points, by trying all."""
    return not any(matches_of(rule, known_by(points), 0) for rule in rules)


def some_points(chance, rules, relations, numbers, many, names=("ann", "bob", "rome", "oslo")):
    """Some points that keep rules, of few names and days."""
    points = []
    for _ in range(many):
        relation = chance.choice(sorted(relations))
        point = relation, tuple(chance.choice(names) for _ in range(relations[relation])), chance.choice(numbers)
        if point not in points and keeps([*points, point], rules):
            points.append(point)
    return points


def renamed(thing, names):
    """A clause, a question, rules, a kind or parts of them with other names, of relations, variables and names."""
    if isinstance(thing, Clause):
        return Clause(renamed(thing.atoms, names), tuple((word, *renamed(terms, names)) for word, *terms in thing.tests))
    if isinstance(thing, Question):
        return Question(*[renamed(part, names) for part in (thing.head, thing.clauses, thing.unless)])
    if isinstance(thing, (tuple, list)):
        if len(thing) == 2 and thing[0] in ("any", "when", "name"):
            return thing[0], names.get(thing[1], thing[1])
        if thing == NOW or len(thing) == 2 and thing[0] == "day":
            return thing
        return tuple(renamed(part, names) for part in thing)
    return names.get(thing, thing) if isinstance(thing, str) else thing


def moved(thing, days):
    """A clause, a question, rules or parts of them with all days moved by so many."""
    if isinstance(thing, Clause):
        return Clause(moved(thing.atoms, days), moved(thing.tests, days))
    if isinstance(thing, Question):
        return Question(thing.head, moved(thing.clauses, days), moved(thing.unless, days))
    if isinstance(thing, tuple) and len(thing) == 2 and thing[0] == "day":
        return "day", thing[1] + days
    return tuple(moved(part, days) for part in thing) if isinstance(thing, tuple) else thing
