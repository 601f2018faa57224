"""Books: what is so on which days; and changes of them."""

from twicedated.errors import BadChange, BadFact
from twicedated.relations import are_names, checked_relations, is_fact, is_name
from twicedated.spans import has, how_many, is_part, is_span, less, normal, union

SET = "set"
CLEAR = "clear"


def change_fault(relations, change):
    """The word for the first thing that is wrong with anybody's change; None if it is one."""
    if not isinstance(change, tuple) or len(change) != 5:
        return "form"
    word, relation, names, first, last = change
    if not isinstance(word, str) or word not in (SET, CLEAR):
        return "word"
    if not is_name(relation) or relation not in relations:
        return "relation"
    if not are_names(names, relations[relation]):
        return "names"
    if not is_span((first, last)):
        return "days"
    return None


def check_change(relations, change):
    """BadChange unless this is a change of facts of these relations."""
    fault = change_fault(relations, change)
    if fault is not None:
        raise BadChange(fault)


def row_behind(row, change):
    """The days of a fact behind a change of it, out of those ahead."""
    days = ((change[3], change[4]),)
    return union(row, days) if change[0] == SET else less(row, days)


class Book:
    """What is so on which days: relations, and rows, from facts to rows of spans."""

    def __init__(self, relations, rows):
        self.relations = checked_relations(relations)
        for fact in rows:
            if not is_fact(self.relations, fact):
                raise BadFact(fact)
        self.rows = {}
        for fact in sorted(rows):
            row = normal(rows[fact])
            if row:
                self.rows[fact] = row

    def __eq__(self, other):
        return isinstance(other, Book) and self.relations == other.relations and self.rows == other.rows

    def spans_of(self, relation, names):
        """The days on which a fact is so."""
        return self.rows.get((relation, tuple(names)), ())

    def has(self, relation, names, day):
        """Whether a fact is so on a day."""
        return has(self.spans_of(relation, names), day)

    def facts(self, relation):
        """The ascending list of (names, row of spans) of the facts of a relation."""
        return [(fact[1], self.rows[fact]) for fact in self.rows if fact[0] == relation]

    def facts_on(self, relation, day):
        """The ascending list of the names of the facts of a relation that are so on a day."""
        return [names for names, row in self.facts(relation) if has(row, day)]

    def points(self):
        """How many facts on days are so."""
        return sum([how_many(self.rows[fact]) for fact in self.rows])

    def is_within(self, other):
        """Whether all that is so is so in another book."""
        return all([is_part(self.rows[fact], other.rows.get(fact, ())) for fact in self.rows])

    def joined(self, other):
        """The book of what is so in one of two."""
        rows = {fact: self.rows[fact] for fact in self.rows}
        for fact in other.rows:
            rows[fact] = union(rows.get(fact, ()), other.rows[fact])
        return _book_of(self.relations, rows)

    def without(self, other):
        """The book of what is so here and not in another one."""
        rows = {fact: less(self.rows[fact], other.rows.get(fact, ())) for fact in self.rows}
        return _book_of(self.relations, rows)

    def changed(self, change):
        """The book behind a change; BadChange."""
        check_change(self.relations, change)
        rows = {fact: self.rows[fact] for fact in self.rows}
        fact = (change[1], change[2])
        rows[fact] = row_behind(rows.get(fact, ()), change)
        return _book_of(self.relations, rows)


def _book_of(relations, rows):
    """A book of rows that come from books: looking at each of them again would only take long."""
    made = Book(relations, {})
    made.rows = {fact: rows[fact] for fact in sorted(rows) if rows[fact]}
    return made


def empty_book(relations):
    """The book in which nothing is so."""
    return Book(relations, {})
