"""Questions made slim: parts are left out as long as the answers stay the same in all books that keep the rules."""

from twicedated.askerrors import BadQuestion
from twicedated.errors import TooMany
from twicedated.kinds import check_together
from twicedated.questions import Clause, Question
from twicedated.within import within


def slim(question, rules, most):
    """A question with the same answers of which no one part more can be left out; and a tuple of pairs that shows it:
    for each part more whether the slim question has more answers then, and a Found of one. BadQuestion, TooMany."""
    check_together(question.clauses + question.unless, rules, {})
    if most == 0:
        raise TooMany(most)
    while True:
        fewer, shown = _fewer(question, rules, most)
        if fewer == question:
            return question, shown
        question = fewer


def _fewer(question, rules, most):
    """A question with the same answers, with each part left out in turn that can be, and what shows of the others that
    they can't be; all parts of a question that stays as it is are shown so."""
    place = 0
    shown = []
    smaller = _smaller(question)
    while place < len(smaller):
        other, has_more = smaller[place]
        found = within(question, other, rules, most) if has_more else within(other, question, rules, most)
        if found:
            question = other
            smaller = _smaller(question)
        else:
            shown.append((has_more, found))
            place += 1
    return question, tuple(shown)


def _without(row, place):
    """A row without what stands at a place."""
    return row[:place] + row[place + 1:]


def _clause_or_none(atoms, tests):
    """The clause of some atoms and tests, None if it is none."""
    try:
        return Clause(atoms, tests)
    except BadQuestion:
        return None


def _question_or_none(head, clauses, unless):
    """The question of a head and some clauses, None if it is none."""
    try:
        return Question(head, clauses, unless)
    except BadQuestion:
        return None


def _with_less(clauses):
    """The list of all rows of clauses that have one atom or test less, if that leaves clauses."""
    rows = []
    for place, clause in enumerate(clauses):
        smaller = [_clause_or_none(_without(clause.atoms, number), clause.tests) for number in range(len(clause.atoms))]
        smaller.extend([_clause_or_none(clause.atoms, _without(clause.tests, number))
                        for number in range(len(clause.tests))])
        rows.extend([clauses[:place] + (less,) + clauses[place + 1:] for less in smaller if less is not None])
    return rows


def _smaller(question):
    """The list of pairs of all questions with one part less, and whether that takes answers away, not brings some: of
    clauses each one less does, and each part less of one of unless, as more matches then."""
    head, clauses, unless = question.head, question.clauses, question.unless
    pairs = [(_question_or_none(head, _without(clauses, place), unless), True) for place in range(len(clauses))]
    pairs.extend([(_question_or_none(head, clauses, _without(unless, place)), False) for place in range(len(unless))])
    pairs.extend([(_question_or_none(head, row, unless), False) for row in _with_less(clauses)])
    pairs.extend([(_question_or_none(head, clauses, row), True) for row in _with_less(unless)])
    return [(smaller, has_more) for smaller, has_more in pairs if smaller is not None]
