"""What several tests of questions use: terms and tests of all sorts, and matches found by trying everything."""

from helpers import LAST, NO_DAYS, NO_NAMES
from twicedated.questions import Clause, Question

NOW = ("now",)
NO_TERMS = [None, 5, True, "any", "now", (), ("any",), ("name",), ("day",), ("when",), ("now", "a"), ("any", "a", "b"),
            ["any", "a"], ["now"], ("Any", "a"), ("x", "a"), (5, "a"), (None, "a"), (("any",), "a"), (["any"], "a"), {},
            {"any": "a"}, object(), ("Now",), (None,), (["now"],), "ab", b"ab"]
NO_NAME_TERMS = (NO_TERMS + [NOW, ("day", 5), ("when", "t"), ("any", "x-0"), ("any", "p-p")]
                 + [(word, thing) for word in ("any", "name") for thing in NO_NAMES])
NO_DAY_TERMS = (NO_TERMS + [("any", "p"), ("name", "ann"), ("when", "x-day"), ("day", "a"), ("when", 5)]
                + [("when", thing) for thing in NO_NAMES] + [("day", thing) for thing in NO_DAYS])
# Terms of two words, of which none can be compared with one of another sort.
NO_TESTS = [None, 5, "less", (), ("less",), ("less", NOW), ("less", NOW, NOW, NOW), ["less", NOW, NOW], ("Less", NOW, NOW),
            ("over", NOW, NOW), (5, NOW, NOW), (None, NOW, NOW), (["less"], NOW, NOW), ("less", NOW, ("any", "p")),
            ("same", ("any", "p"), NOW), ("less", ("any", "p"), ("any", "p")), ("most", ("any", "p"), ("name", "ann")),
            ("unlike", ("name", "ann"), ("day", 5)), ("", NOW, NOW), {}, object()]


def any_(name):
    """A variable of names."""
    return "any", name


def name(word):
    """A name as a term."""
    return "name", word


def when(word):
    """A variable of days."""
    return "when", word


def day(number):
    """A day as a term."""
    return "day", number


def holds(test, worth):
    """Whether a test holds by the worths of terms."""
    word, one, other = test
    here, there = worth[one], worth[other]
    return {"less": lambda: here < there, "most": lambda: here <= there, "same": lambda: here == there,
            "unlike": lambda: here != there}[word]()


def is_day_term(term):
    """Whether a term is one of days."""
    return term[0] in ("day", "when", "now")


def is_free(term):
    """Whether a term is no constant."""
    return term[0] in ("any", "when", "now")


def worths(terms, tests, days, names, rows=({},)):
    """All dicts from terms to some of these days and names by which all tests hold, by trying all; rows: for others."""
    rows = list(rows)
    for term in sorted(dict.fromkeys(terms), key=is_free):
        tried = [term[1]] if not is_free(term) else days if is_day_term(term) else names
        here = [test for test in tests if term in test[1:]]
        longer = [{**row, term: thing} for row in rows for thing in tried]
        rows = [row for row in longer if all(holds(test, row) for test in here if test[1] in row and test[2] in row)]
    return rows


def days_by_fact(book, days):
    """The dict of the facts of a book to the sets of those of some days on which they are so."""
    return {fact: {number for number in days if any(first <= number <= last for first, last in row)}
            for fact, row in book.rows.items()}


def put(worth, term, thing):
    """Whether a term can be a thing, by the worths of others; if so it is put to them."""
    if not is_free(term):
        return term[1] == thing
    return worth.setdefault(term, thing) == thing


def matches_of(clause, known, now):
    """All matches of a clause, by trying all facts and days: pairs of the worths of its terms and the points."""
    rows = [({NOW: now}, ())]
    for relation, terms, hour in clause.atoms:
        longer = []
        for worth, points in rows:
            for (word, names), days in known.items():
                for number in days if word == relation and len(names) == len(terms) else ():
                    more = dict(worth)
                    if all(put(more, term, thing) for term, thing in [*zip(terms, names), (hour, number)]):
                        longer.append((more, points + ((word, names, number),)))
        rows = longer
    constants = {term: term[1] for test in clause.tests for term in test[1:] if not is_free(term)}
    return [(worth, points) for worth, points in rows
            if all(holds(test, {**worth, **constants}) for test in clause.tests)]


def heads_of(question, clauses, known, now):
    """What the head of a question is by some match of one of these clauses."""
    return {tuple(worth[term] for term in question.head)
            for clause in clauses for worth, _ in matches_of(clause, known, now)}


def answers_of(question, known, now):
    """The answers of a question, by trying all."""
    return sorted(heads_of(question, question.clauses, known, now) - heads_of(question, question.unless, known, now))


def some_atom(chance, relations, numbers, has_now):
    """An atom of one of these relations, of few variables, and of names and days now and then."""
    relation = chance.choice(sorted(relations))
    terms = tuple(name(chance.choice(["ann", "bob", "rome"])) if chance.random() < 0.2 else any_(chance.choice("pq"))
                  for _ in range(relations[relation]))
    sorts = [when(word) for word in "ttuuv"] + [day(chance.choice(numbers))] + [NOW] * (3 if has_now else 0)
    return relation, terms, chance.choice(sorts)


def some_clause(chance, relations, numbers, has_now=True, head=()):
    """A clause; the variables of a head all stand in it."""
    while True:
        atoms = tuple(some_atom(chance, relations, numbers, has_now) for _ in range(chance.choice([1, 1, 2, 2, 3])))
        free = [term for _, terms, last in atoms for term in (*terms, last)]
        if all(term in free for term in head):
            break
    days = [term for term in free if is_day_term(term)] + [day(chance.choice(numbers))] + ([NOW] if has_now else [])
    names = [term for term in free if not is_day_term(term)] + [name("ann")]
    tests = []
    for _ in range(chance.choice([0, 0, 1, 1, 2, 3])):
        if chance.random() < 0.7:
            word, sort = chance.choice(["less", "most", "same", "unlike", "unlike", "less"]), days
        else:
            word, sort = chance.choice(["same", "unlike", "unlike"]), names
        tests.append((word, chance.choice(sort), chance.choice(sort)))
    return Clause(atoms, tuple(tests))


def some_question(chance, relations, numbers):
    """A question of one or two clauses, sometimes with unless."""
    head = chance.choice([(), (any_("p"),), (any_("p"),), (any_("p"), any_("p")), (any_("q"), any_("p"))])
    clauses = tuple(some_clause(chance, relations, numbers, head=head) for _ in range(chance.choice([1, 1, 2])))
    unless = tuple(some_clause(chance, relations, numbers, head=head) for _ in range(chance.choice([0, 0, 1, 2])))
    return Question(head, clauses, unless)
