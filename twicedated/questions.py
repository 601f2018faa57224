"""Questions: clauses of atoms and tests, heads, and what is left out of the answers."""

from twicedated.askerrors import BadQuestion, BadTerm
from twicedated.relations import MOST_NAMES, is_name
from twicedated.terms import is_day_term, is_name_term, is_test, is_variable_day, is_variable_name

MOST_ATOMS = 3
MOST_TESTS = 6
MOST_CLAUSES = 3
LONGEST_HEAD = 4


def _is_row(thing, least, most):
    """Whether anything is a tuple of at least and at most so many things."""
    return isinstance(thing, tuple) and least <= len(thing) <= most


def _check_atom(thing):
    """BadQuestion, or BadTerm, unless anything is an atom."""
    if not isinstance(thing, tuple) or len(thing) != 3 or not isinstance(thing[1], tuple):
        raise BadQuestion("atom")
    relation, names, day = thing
    if not is_name(relation) or not 1 <= len(names) <= MOST_NAMES:
        raise BadQuestion("relation")
    for term in names:
        if not is_name_term(term):
            raise BadTerm(term)
    if not is_day_term(day):
        raise BadTerm(day)


def _is_variable(term):
    """Whether a term is a variable, of names or of days."""
    return is_variable_name(term) or is_variable_day(term)


class Clause:
    """Atoms, of which each is some point of a book, and tests that hold of them."""

    def __init__(self, atoms, tests):
        if not _is_row(atoms, 1, MOST_ATOMS):
            raise BadQuestion("atoms")
        for atom in atoms:
            _check_atom(atom)
        if not _is_row(tests, 0, MOST_TESTS) or not all([is_test(test) for test in tests]):
            raise BadQuestion("tests")
        here = variables_of(atoms)
        if not all([term in here for test in tests for term in test[1:] if _is_variable(term)]):
            raise BadQuestion("variable")
        self.atoms = atoms
        self.tests = tests

    def __eq__(self, other):
        return isinstance(other, Clause) and self.atoms == other.atoms and self.tests == other.tests


def variables_of(atoms):
    """The dict of the variables that stand in atoms, to True."""
    terms = [term for _, names, day in atoms for term in (*names, day)]
    return {term: True for term in terms if _is_variable(term)}


def _are_clauses(thing, least):
    """Whether anything is a tuple of at least so many clauses, and not too many."""
    return _is_row(thing, least, MOST_CLAUSES) and all([isinstance(clause, Clause) for clause in thing])


def minds(clauses, told):
    """The dict from relations to how many names they have, by what is told and by the atoms of clauses; BadQuestion
    unless all are of one mind."""
    many = {relation: told[relation] for relation in told}
    for clause in clauses:
        for relation, names, _ in clause.atoms:
            if many.setdefault(relation, len(names)) != len(names):
                raise BadQuestion("relation")
    return many


class Question:
    """A head, clauses that tell what it can be, and others that tell what it isn't even so."""

    def __init__(self, head, clauses, unless):
        if not _is_row(head, 0, LONGEST_HEAD) or not all([is_variable_name(term) for term in head]):
            raise BadQuestion("head")
        if not _are_clauses(clauses, 1):
            raise BadQuestion("clauses")
        if not _are_clauses(unless, 0):
            raise BadQuestion("unless")
        for clause in clauses + unless:
            here = variables_of(clause.atoms)
            if not all([term in here for term in head]):
                raise BadQuestion("safe")
        minds(clauses + unless, {})
        self.head = head
        self.clauses = clauses
        self.unless = unless

    def __eq__(self, other):
        if not isinstance(other, Question):
            return False
        return self.head == other.head and self.clauses == other.clauses and self.unless == other.unless

    def relations(self):
        """The ascending tuple of the relations that stand in it."""
        return tuple(sorted(set([atom[0] for clause in self.clauses + self.unless for atom in clause.atoms])))
