"""Which facts of a book the atoms of a clause can be, by their names, and on which days then."""

from twicedated.placing import Plan
from twicedated.spans import meet
from twicedated.terms import tests_of_names


class Shelf:
    """The facts of a book, by their relations, and by each name at its place."""

    def __init__(self, book):
        self.rows = book.rows
        self.of_relation = {}
        self.with_name = {}
        for fact in book.rows:
            self.of_relation.setdefault(fact[0], []).append(fact)
            for place, name in enumerate(fact[1]):
                self.with_name.setdefault((fact[0], place, name), []).append(fact)

    def facts_for(self, atom, names):
        """A list that has all facts that an atom can be, by names for variables, and few others."""
        relation, terms, _ = atom
        found = self.of_relation.get(relation, [])
        for place, term in enumerate(terms):
            name = _name_of(term, names)
            if name is not None:
                fewer = self.with_name.get((relation, place, name), [])
                found = fewer if len(fewer) < len(found) else found
        return found


class Way:
    """What a clause is so far: facts for the first of its atoms, names for variables, rows of days for places."""

    def __init__(self, facts, names, rows):
        self.facts = facts
        self.names = names
        self.rows = rows


def _name_of(term, names):
    """The name of a term, by names for variables; None if it has none so far."""
    return term[1] if term[0] == "name" else names.get(term[1])


def _names_behind(terms, told, names):
    """The names for variables behind taking terms for these told names; None if they can't be taken for them."""
    if len(terms) != len(told):
        return None
    found = dict(names)
    for term, name in zip(terms, told):
        if term[0] == "any":
            found.setdefault(term[1], name)
        if _name_of(term, found) != name:
            return None
    return found


def _do_names_hold(tests, names):
    """Whether tests of names hold, as far as there are names for their variables."""
    for word, one, other in tests:
        here = _name_of(one, names)
        there = _name_of(other, names)
        if here is not None and there is not None and (here == there) != (word == "same"):
            return False
    return True


class Join:
    """Looks for the ways in which a clause is facts of a book."""

    def __init__(self, clause, shelf):
        self.clause = clause
        self.shelf = shelf
        self.plan = Plan(clause)
        self.tests = tests_of_names(clause.tests)

    def place(self, atom):
        """The place of an atom's day."""
        return self.plan.places[atom[2]]

    def longer(self, way):
        """The list of the ways with one more fact, of which names and days aren't barred by themselves."""
        atom = self.clause.atoms[len(way.facts)]
        place = self.place(atom)
        found = []
        for fact in self.shelf.facts_for(atom, way.names):
            names = _names_behind(atom[1], fact[1], way.names)
            if names is not None and _do_names_hold(self.tests, names):
                row = meet(way.rows[place], self.shelf.rows[fact])
                if row:
                    found.append(Way(way.facts + (fact,), names, way.rows[:place] + [row] + way.rows[place + 1:]))
        return found

    def ways(self, names, now):
        """Yields all ways, by names for variables and the row of the days that may be asked of; on which days they can
        be is then for the plan to say."""
        if not self.plan.branches:
            return
        waiting = [Way((), names, self.plan.rows(now))]
        while waiting:
            way = waiting.pop()
            if len(way.facts) == len(self.clause.atoms):
                yield way
            else:
                waiting.extend(self.longer(way))
