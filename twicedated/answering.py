"""Answers of questions in a book, the days on which they are, and the points by which rules match."""

from twicedated.errors import TooMany
from twicedated.joins import Join, Shelf
from twicedated.spans import EVER, less, union
from twicedated.terms import NOW


def answers(question, book, now):
    """The ascending list of the answers of a question on a day that is asked of."""
    return list(_rows_by_names(question, Shelf(book), {}, ((now, now),)))


def timelines(question, book):
    """The dict of all tuples that are an answer on some day, ascending, to the row of the days on which they are."""
    return _rows_by_names(question, Shelf(book), {}, EVER)


def timeline(question, book, names):
    """The row of the days on which a tuple is an answer."""
    told = tuple(names)
    bound = _bound(question.head, told)
    if bound is None:
        return ()
    return _rows_by_names(question, Shelf(book), bound, EVER).get(told, ())


def _bound(head, told):
    """The names for the variables of a head by which it is a tuple of names; None if it can't be."""
    if len(head) != len(told):
        return None
    names = {}
    for term, name in zip(head, told):
        if names.setdefault(term[1], name) != name:
            return None
    return names


def _joins(clauses, shelf):
    """A list of what looks for the matches of each clause."""
    return [Join(clause, shelf) for clause in clauses]


def _rows_by_names(question, shelf, bound, now):
    """The dict of the answers, ascending, to the rows of the days on which they are, of those that are asked of."""
    found = _told_by(_joins(question.clauses, shelf), question.head, bound, now)
    unless = _joins(question.unless, shelf)
    answered = {}
    for names in sorted(found):
        row = found[names]
        barred = _told_by(unless, question.head, _bound(question.head, names), row)
        row = less(row, barred.get(names, ()))
        if row:
            answered[names] = row
    return answered


def _told_by(joins, head, bound, now):
    """The dict of what a head is by matches of clauses to the rows of the days on which it is, of those asked of."""
    is_one = all([term[1] in bound for term in head])
    found = {}
    for join in joins:
        place = join.plan.places[NOW]
        for way in join.ways(bound, now):
            names = tuple([way.names[term[1]] for term in head])
            row = found.get(names, ())
            if row != now:
                row = union(row, join.plan.row_of(way.rows, place))
                if row:
                    found[names] = row
            elif is_one:
                return found
    return found


def is_legal(book, rules):
    """Whether no rule matches in a book."""
    shelf = Shelf(book)
    for rule in rules:
        join = Join(rule, shelf)
        for way in join.ways({}, EVER):
            if join.plan.can_be(way.rows):
                return False
    return True


def matches(rule, book, most):
    """The ascending list of the unlike tuples of points by which a rule matches; TooMany if they are more than most."""
    if most == 0:
        raise TooMany(most)
    join = Join(rule, Shelf(book))
    places = list({join.place(atom): True for atom in rule.atoms})
    found = []
    for way in join.ways({}, EVER):
        for days in _placed(join.plan, way.rows, places):
            if len(found) == most:
                raise TooMany(most)
            found.append(_points_of(join, way, days))
    return sorted(found)


def _placed(plan, rows, places):
    """Yields the dicts from some places to days by which they can be, and all others with them."""
    place = places[0]
    behind = places[1:]
    for first, last in plan.row_of(rows, place):
        for day in range(first, last + 1):
            if behind:
                narrow = rows[:place] + [((day, day),)] + rows[place + 1:]
                for days in _placed(plan, narrow, behind):
                    yield {place: day, **days}
            else:
                yield {place: day}


def _points_of(join, way, days):
    """The points that the atoms of a clause are, by a way and days for their places."""
    atoms = join.clause.atoms
    return tuple([(fact[0], fact[1], days[join.place(atom)]) for atom, fact in zip(atoms, way.facts)])
