"""Tables of columns, and histories out of them."""

from twicedated.books import CLEAR, SET
from twicedated.errors import BadMoment
from twicedated.histories import History, from_columns, is_among
from twicedated.spans import has, is_part, less, meet


def table_of(history):
    """The dict of all facts that were ever known, ascending, to their columns."""
    columns = {fact: history.columns(fact) for fact in history.facts()}
    return {fact: columns[fact] for fact in columns if columns[fact]}


def change_to(early, late):
    """A change that leads from one book to another; None if none does, or both are one."""
    facts = [fact for fact in sorted(set([*early.rows, *late.rows]))
             if early.rows.get(fact, ()) != late.rows.get(fact, ())]
    if len(facts) != 1:
        return None
    fact = facts[0]
    return _change_of(fact, early.rows.get(fact, ()), late.rows.get(fact, ()))


def _change_of(fact, was, now):
    """The change that makes the one row of days of a fact the other, unlike one; None if none does."""
    come = less(now, was)
    gone = less(was, now)
    if not gone:
        first, last = come[0][0], come[-1][1]
        return (SET, *fact, first, last) if is_part(((first, last),), now) else None
    if not come:
        first, last = gone[0][0], gone[-1][1]
        return (CLEAR, *fact, first, last) if meet(((first, last),), now) == () else None
    return None


def _idle_change(relations, rows):
    """A change that changes nothing in a book with these rows."""
    relation = sorted(relations)[0]
    fact = (relation, ("a",) * relations[relation])
    return (SET if has(rows.get(fact, ()), 0) else CLEAR, *fact, 0, 0)


def _facts_by_moment(table):
    """The dict from moments to the facts that are known on other days then than ahead."""
    found = {}
    for fact in table:
        for _, _, moments in table[fact]:
            for since, until in moments:
                found.setdefault(since, {})[fact] = True
                if until is not None:
                    found.setdefault(until + 1, {})[fact] = True
    return found


def _row_at(relations, table, fact, moment):
    """The row of the days on which a fact was known at a moment, by a table."""
    return from_columns(relations, {fact: table[fact]}, moment).rows.get(fact, ())


def history_of(relations, table, last):
    """A history with so many moments that knew just what a table tells of each of them; BadMoment."""
    if from_columns(relations, table, 0).rows:
        raise BadMoment(0)
    facts_by_moment = _facts_by_moment(table)
    rows = {}
    changes = []
    for moment in range(1, last + 1):
        behind = {fact: _row_at(relations, table, fact, moment) for fact in facts_by_moment.get(moment, {})}
        facts = [fact for fact in behind if behind[fact] != rows.get(fact, ())]
        if not facts:
            changes.append(_idle_change(relations, rows))
            continue
        change = _change_of(facts[0], rows.get(facts[0], ()), behind[facts[0]])
        if len(facts) > 1 or change is None:
            raise BadMoment(moment)
        changes.append(change)
        rows[facts[0]] = behind[facts[0]]
    return History(relations, changes)


def are_alike(one, other):
    """Whether two histories have as many moments and knew the same at all of them."""
    return one.last_moment() == other.last_moment() and table_of(one) == table_of(other)
