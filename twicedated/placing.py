"""On which days the terms of a clause can be, all at once: by rows of days for each, and by tests.

Days are never tried one by one. Where it is decided of each two days that are unlike which one is ahead, all else that
tests tell are least differences; so of all ways to place the days there is a least one and a greatest one, and each
single term can be on all its days between both.
"""

from twicedated.gaps import decided, first_gaps, places_of, told, unlikes_of, window_of
from twicedated.spans import first_from, last_until, meet, union
from twicedated.terms import NOW, terms_of, tests_of_days


def _how_many_ahead(gaps, place):
    """How many places are known to be not behind a place: fewer than of any that is behind it."""
    return len([row for row in gaps if row[place] >= 0])


class Branch:
    """One way in which days are ordered: groups of places that are on one day, whatever is ahead of them first."""

    def __init__(self, gaps):
        self.gaps = gaps
        self.groups = {}
        self.leader_of = []
        places = range(len(gaps))
        for place in places:
            leader = [other for other in places if gaps[other][place] == 0 and gaps[place][other] == 0][0]
            self.leader_of.append(leader)
            self.groups.setdefault(leader, []).append(place)
        self.leaders = sorted(self.groups, key=lambda known: _how_many_ahead(gaps, known))

    def melted(self, rows):
        """The dict from leaders to the days on which all of their groups can be, by rows of days for all places."""
        found = {}
        for leader in self.leaders:
            row = rows[leader]
            for place in self.groups[leader][1:]:
                row = meet(row, rows[place])
            found[leader] = row
        return found

    def least(self, melted):
        """The dict from leaders to the least days on which all can be at once; None if they can't."""
        days = {}
        for leader in self.leaders:
            bounds = [days[other] + self.gaps[other][leader] for other in days if self.gaps[other][leader] >= 0]
            day = first_from(melted[leader], max(bounds, default=0))
            if day is None:
                return None
            days[leader] = day
        return days

    def greatest(self, melted, last):
        """The greatest day on which a leader can be, if all can be at once."""
        days = {}
        for leader in reversed(self.leaders):
            bounds = [days[other] - self.gaps[leader][other] for other in days if self.gaps[leader][other] >= 0]
            ends = melted[leader][-1][1]
            days[leader] = last_until(melted[leader], min(bounds, default=ends))
            if leader == last:
                break
        return days[last]

    def can_be(self, rows):
        """Whether all places can be on days of their rows at once."""
        return self.least(self.melted(rows)) is not None

    def row_of(self, rows, place):
        """The row of the days on which a place can be."""
        melted = self.melted(rows)
        days = self.least(melted)
        if days is None:
            return ()
        leader = self.leader_of[place]
        return meet(melted[leader], ((days[leader], self.greatest(melted, leader)),))


class Plan:
    """How the days of a clause hang together; places are those of its terms of days, NOW's among them."""

    def __init__(self, clause):
        tests = tests_of_days(clause.tests)
        terms = list({term: True for term in [NOW, *[atom[2] for atom in clause.atoms], *terms_of(tests)]})
        self.terms = terms
        self.places = places_of(terms)
        gaps = first_gaps(terms)
        orders = decided(gaps, unlikes_of(self.places, tests)) if told(gaps, self.places, tests) else []
        self.branches = [Branch(order) for order in orders]

    def rows(self, now):
        """The rows of days for all places, of which nothing is known but the row of those that may be asked of."""
        return [((0, 0),)] + [now if term == NOW else (window_of(term),) for term in self.terms]

    def can_be(self, rows):
        """Whether all places can be on days of their rows at once, and all tests hold."""
        return any([branch.can_be(rows) for branch in self.branches])

    def row_of(self, rows, place):
        """The row of the days on which a place can be, if all others are on days of their rows, and all tests hold."""
        row = ()
        for branch in self.branches:
            row = union(row, branch.row_of(rows, place))
        return row
