"""Which tests of days and names can hold together, and what follows of them."""

from twicedated.gaps import settled, spread, told, widen, window_of
from twicedated.terms import is_of_days, terms_of


def can_hold(tests):
    """Whether some days and names are such that all of some tests hold."""
    return solved(tests) is not None


def solved(tests):
    """A dict from the terms in tests to days and names by which all hold; None if there are none."""
    known = Known(tests)
    if not known.fits():
        return None
    names = known.names.solved()
    days = known.days.solved()
    if days is None:
        return None
    return {term: days[term] if is_of_days(term) else names[term] for term in terms_of(tests)}


class Known:
    """What follows of tests."""

    def __init__(self, tests):
        self.names = Names()
        self.days = Days()
        self._learn(tests)

    def _learn(self, tests):
        """Puts tests to those that hold."""
        for test in tests:
            if is_of_days(test[1]):
                self.days.learn(test)
            else:
                self.names.learn(test)

    def more(self, tests):
        """What follows of some more tests, too."""
        longer = Known(())
        longer.names = self.names.copied()
        longer.days = self.days.copied()
        longer._learn(tests)
        return longer

    def fits(self):
        """Whether the tests can hold together, but for days that are only told to be unlike."""
        return self.names.fits and self.days.fits

    def says(self, test):
        """True if a test holds wherever all do, False if it doesn't wherever all do, else None."""
        if is_of_days(test[1]):
            return self.days.says(test)
        return self.names.says(test)


def _either(is_so, is_not_so):
    """What is said of what follows, of that of which the contrary follows, and of all else."""
    if is_so:
        return True
    return False if is_not_so else None


class Names:
    """Terms of names in groups that are the same, each with a leader: its constant, if it has one."""

    def __init__(self):
        self.leaders = {}
        self.unlikes = []
        self.fits = True

    def copied(self):
        """The same, to be changed by itself."""
        more = Names()
        more.leaders = {term: self.leaders[term] for term in self.leaders}
        more.unlikes = list(self.unlikes)
        more.fits = self.fits
        return more

    def learn(self, test):
        """A test of names holds, too."""
        word, one, other = test
        self.leaders.setdefault(one, one)
        self.leaders.setdefault(other, other)
        if word == "same":
            self._melt(self.leader(one), self.leader(other))
        else:
            self.unlikes.append((one, other))
        self.fits = self.fits and not any([self.leader(here) == self.leader(there) for here, there in self.unlikes])

    def _melt(self, one, other):
        """Makes one group of two, by their leaders."""
        if one[0] == "name":
            self.leaders[other] = one
            self.fits = self.fits and (other[0] != "name" or one == other)
        else:
            self.leaders[one] = other

    def leader(self, term):
        """The leader of the group of a term, itself if nothing is told of it."""
        while self.leaders.get(term, term) != term:
            term = self.leaders[term]
        return term

    def are_unlike(self, one, other):
        """Whether two leaders are known to be two names."""
        if one != other and one[0] == "name" and other[0] == "name":
            return True
        pairs = [(self.leader(here), self.leader(there)) for here, there in self.unlikes]
        return (one, other) in pairs or (other, one) in pairs

    def says(self, test):
        """What Known says of a test of names."""
        one = self.leader(test[1])
        other = self.leader(test[2])
        if test[0] == "same":
            return _either(one == other, self.are_unlike(one, other))
        return _either(self.are_unlike(one, other), one == other)

    def solved(self):
        """The dict from all terms to names by which all tests hold, if they can, unlike ones for all groups."""
        constants = {term[1]: True for term in self.leaders if term[0] == "name"}
        found = {}
        number = 0
        for term in self.leaders:
            leader = self.leader(term)
            if leader[0] == "name":
                found[leader] = leader[1]
            while leader not in found:
                if f"n{number}" not in constants:
                    found[leader] = f"n{number}"
                number += 1
        return {term: found[self.leader(term)] for term in self.leaders}


class Days:
    """Terms of days, and by how many days the one is behind the other one at least."""

    def __init__(self):
        self.places = {}
        self.gaps = [[0]]
        self.unlikes = []
        self.fits = True

    def copied(self):
        """The same, to be changed by itself."""
        more = Days()
        more.places = {term: self.places[term] for term in self.places}
        more.gaps = [list(row) for row in self.gaps]
        more.unlikes = list(self.unlikes)
        more.fits = self.fits
        return more

    def _place(self, term):
        """A place for a term, if it has none."""
        if term not in self.places:
            self.places[term] = len(self.gaps)
            widen(self.gaps, term)

    def learn(self, test):
        """A test of days holds, too."""
        word, one, other = test
        self._place(one)
        self._place(other)
        if word == "unlike":
            self.unlikes.append((self.places[one], self.places[other]))
        self.fits = self.fits and told(self.gaps, self.places, [test]) and spread(self.gaps, self.unlikes)

    def gap(self, one, other):
        """How many days the other one of two terms, perhaps new ones, is behind the one at least."""
        if one in self.places and other in self.places:
            return self.gaps[self.places[one]][self.places[other]]
        return 0 if one == other else self.window(other)[0] - self.window(one)[1]

    def window(self, term):
        """The first and the last day that a term can be, as far as is known."""
        if term in self.places:
            place = self.places[term]
            return self.gaps[0][place], -self.gaps[place][0]
        return window_of(term)

    def are_same(self, one, other):
        """Whether two terms are known to be one day."""
        return self.gap(one, other) == 0 and self.gap(other, one) == 0

    def are_unlike(self, one, other):
        """Whether two terms are known to be two days."""
        if self.gap(one, other) > 0 or self.gap(other, one) > 0:
            return True
        ones = [place for term, place in self.places.items() if self.are_same(one, term)]
        others = [place for term, place in self.places.items() if self.are_same(other, term)]
        return any([here in ones and there in others or here in others and there in ones
                    for here, there in self.unlikes])

    def says(self, test):
        """What Known says of a test of days."""
        word, one, other = test
        if word == "less":
            return _either(self.gap(one, other) > 0, self.gap(other, one) >= 0)
        if word == "most":
            return _either(self.gap(one, other) >= 0, self.gap(other, one) > 0)
        if word == "same":
            return _either(self.are_same(one, other), self.are_unlike(one, other))
        return _either(self.are_unlike(one, other), self.are_same(one, other))

    def solved(self):
        """The dict from all terms to days by which all tests hold; None if none do."""
        gaps = settled(self.gaps, self.unlikes) if self.fits else None
        if gaps is None:
            return None
        return {term: gaps[0][self.places[term]] for term in self.places}
