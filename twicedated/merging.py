"""Two offices that went on from one book: what they know together, and whether their changes agree."""

from twicedated.books import Book
from twicedated.spans import less, meet, union, unlike


def merged(base, one, other):
    """The book in which each point is as in that of two books that has it otherwise than the base, else as there."""
    rows = {}
    for fact in _facts_of([base, one, other]):
        mine = one.rows.get(fact, ())
        here = unlike(base.rows.get(fact, ()), mine)
        # Where the one book is as the base, the other one is as it is to be, whether it was changed there or not.
        rows[fact] = union(meet(mine, here), less(other.rows.get(fact, ()), here))
    return Book(base.relations, rows)


def _facts_of(books):
    """The ascending list of the facts of some books."""
    return sorted(set([fact for book in books for fact in book.rows]))


def touched(base, book):
    """The dict of the facts that aren't alike in a book and its base, ascending, to the days on which they aren't."""
    found = {}
    for fact in _facts_of([base, book]):
        days = unlike(base.rows.get(fact, ()), book.rows.get(fact, ()))
        if days:
            found[fact] = days
    return found


def both_touched(base, one, other):
    """The dict of the facts, ascending, to the days on which both books are otherwise than the base."""
    mine = touched(base, one)
    theirs = touched(base, other)
    shared = {fact: meet(mine[fact], theirs[fact]) for fact in mine if fact in theirs}
    return {fact: shared[fact] for fact in shared if shared[fact]}


def replayed(base, changes):
    """The book behind some changes, one behind the other; BadChange."""
    book = base
    for change in changes:
        book = book.changed(change)
    return book


def do_agree(base, one, other):
    """Whether two rows of changes, one row behind the other, lead to the same book in either order; BadChange."""
    return replayed(base, [*one, *other]) == replayed(base, [*other, *one])
