"""How clauses match rows: by which tests of their terms, and by which points."""

from twicedated.terms import NOW


def needed(clause, rows, asked, head):
    """The list of the tests that must hold of the terms of rows so that a clause's atoms are these rows, one by one,
    its tests hold, and what is asked of it is a head; None if a row has another relation."""
    worths = {}
    tests = []
    for (relation, names, day), row in zip(clause.atoms, rows):
        if row[0] != relation:
            return None
        for term, told in zip([*names, day], [*row[1], row[2]]):
            worth = worths.setdefault(term, told) if term[0] in ("any", "when") else term
            if worth != told:
                tests.append(("same", worth, told))
    for word, one, other in clause.tests:
        tests.append((word, worths.get(one, one), worths.get(other, other)))
    if asked is not None:
        tests.extend([("same", worths[term], told) for term, told in zip(asked, head) if worths[term] != told])
    return tests


def does_hold(test, worths):
    """Whether a test holds by the worths of its variables."""
    word, one, other = test
    here = _worth_of(one, worths)
    there = _worth_of(other, worths)
    if word == "less":
        return here < there
    if word == "most":
        return here <= there
    return (here == there) == (word == "same")


def _worth_of(term, worths):
    """The day or name that a term is."""
    return term[1] if term[0] in ("day", "name") else worths[term]


def _put_all(terms, told, worths):
    """The worths of variables, if terms are some days and names, too; None if they can't be."""
    found = {term: worths[term] for term in worths}
    for term, thing in zip(terms, told):
        worth = term[1] if term[0] in ("day", "name") else found.setdefault(term, thing)
        if worth != thing:
            return None
    return found


def matched(clause, points, now):
    """The list of pairs of the numbers of points that the atoms of a clause can be, one by one, and the worths of its
    variables by which its tests hold."""
    found = [((), {NOW: now})]
    for relation, names, day in clause.atoms:
        longer = []
        for numbers, worths in found:
            for number, point in enumerate(points):
                if point[0] == relation:
                    more = _put_all([*names, day], [*point[1], point[2]], worths)
                    if more is not None:
                        longer.append((numbers + (number,), more))
        found = longer
    return [(numbers, worths) for numbers, worths in found
            if all([does_hold(test, worths) for test in clause.tests])]
