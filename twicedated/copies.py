"""Copies of books at moments, and patches that lead from one moment to another one."""

from heapq import heappop, heappush

from twicedated.errors import BadMoment
from twicedated.fewest import fewest_between


def patch_between(history, one, other):
    """The patch with the fewest changes from the book at a moment to that at another one; BadMoment."""
    ahead = history.book_at(one)
    behind = history.book_at(other)
    return one, other, fewest_between(ahead, behind)[0]


class Copy:
    """A book, and the moment at which it was known so."""

    def __init__(self, book, moment):
        self.book = book
        self.moment = moment

    def patched(self, patch):
        """The copy behind a patch; BadMoment unless it is from the copy's moment."""
        one, other, changes = patch
        if one != self.moment:
            raise BadMoment(one)
        book = self.book
        for change in changes:
            book = book.changed(change)
        return Copy(book, other)


def way_to(copy, patches, moment):
    """The shortest tuple of patches, one behind another, by which a copy comes to a moment; None without any."""
    found = _cheapest(copy, patches, moment, _one)
    return None if found is None else found[1]


def cheapest_way(copy, patches, moment):
    """The way to a moment with the fewest changes in sum: how many, and its patches; None without any."""
    return _cheapest(copy, patches, moment, _changes_of)


def _one(patch):
    """What each patch costs where patches are counted."""
    return 1


def _changes_of(patch):
    """How many changes a patch has."""
    return len(patch[2])


def _cheapest(copy, patches, moment, cost_of):
    """The least cost of a way to a moment, and its patches; None without any."""
    by_moment = {}
    for patch in patches:
        by_moment.setdefault(patch[0], []).append(patch)
    reached = {}
    queue = [(0, 0, copy.moment, None)]
    # Entries of the queue are numbered, so that patches are never compared.
    number = 0
    while queue:
        cost, _, here, last = heappop(queue)
        if here in reached:
            continue
        reached[here] = last
        if here == moment:
            return cost, _way_back(reached, here)
        for patch in by_moment.get(here, []):
            number += 1
            heappush(queue, (cost + cost_of(patch), number, patch[1], patch))
    return None


def _way_back(reached, moment):
    """The tuple of the patches by which a moment was reached, by the dict from moments to the last patch there."""
    way = []
    patch = reached[moment]
    while patch is not None:
        way.append(patch)
        patch = reached[patch[0]]
    return tuple(way[::-1])
