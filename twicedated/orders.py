"""Which tests of days and names can hold together, and what follows of them."""

from twicedated.gaps import first_gaps, places_of, settled, spread, told, unlikes_of, window_of
from twicedated.terms import is_of_days, terms_of, tests_of_days, tests_of_names


def can_hold(tests):
    """Whether some days and names are such that all of some tests hold."""
    return solved(tests) is not None


def solved(tests):
    """A dict from the terms in tests to days and names by which all hold; None if there are none."""
    names = Names(tests).solved()
    if names is None:
        return None
    days = Days(tests).solved()
    if days is None:
        return None
    return {term: days[term] if is_of_days(term) else names[term] for term in terms_of(tests)}


class Known:
    """What follows of tests."""

    def __init__(self, tests):
        self.names = Names(tests)
        self.days = Days(tests)

    def says(self, test):
        """True if a test holds wherever all do, False if it doesn't wherever all do, else None."""
        if is_of_days(test[1]):
            return self.days.says(test)
        return self.names.says(test)


def _either(is_so, is_not_so):
    """What is said of what follows, of that of which the contrary follows, and of all else."""
    if is_so:
        return True
    return False if is_not_so else None


class Names:
    """Terms of names in groups that are the same, each with a leader: its constant, if it has one."""

    def __init__(self, tests):
        of_names = tests_of_names(tests)
        self.terms = terms_of(of_names)
        self.leaders = {term: term for term in self.terms}
        for word, one, other in of_names:
            if word == "same":
                self.melt(self.leader(one), self.leader(other))
        pairs = [(self.leader(one), self.leader(other)) for word, one, other in of_names if word == "unlike"]
        self.unlikes = {pair: True for pair in pairs}
        self.fits = not any([self.leader(term) != term for term in self.terms if term[0] == "name"])
        self.fits = self.fits and not any([one == other for one, other in pairs])

    def melt(self, one, other):
        """Makes one group of two, by their leaders."""
        if one[0] == "name":
            self.leaders[other] = one
        else:
            self.leaders[one] = other

    def leader(self, term):
        """The leader of the group of a term, itself if nothing is told of it."""
        while self.leaders.get(term, term) != term:
            term = self.leaders[term]
        return term

    def says(self, test):
        """What Known says of a test of names."""
        one = self.leader(test[1])
        other = self.leader(test[2])
        is_unlike = (one, other) in self.unlikes or (other, one) in self.unlikes
        is_unlike = is_unlike or one != other and one[0] == "name" and other[0] == "name"
        if test[0] == "same":
            return _either(one == other, is_unlike)
        return _either(is_unlike, one == other)

    def solved(self):
        """The dict from all terms to names by which all tests hold, unlike ones for all groups; None if none do."""
        if not self.fits:
            return None
        constants = {term[1]: True for term in self.terms if term[0] == "name"}
        found = {}
        number = 0
        for term in self.terms:
            leader = self.leader(term)
            if leader[0] == "name":
                found[leader] = leader[1]
            while leader not in found:
                if f"n{number}" not in constants:
                    found[leader] = f"n{number}"
                number += 1
        return {term: found[self.leader(term)] for term in self.terms}


class Days:
    """Terms of days, and by how many days the one is behind the other one at least."""

    def __init__(self, tests):
        of_days = tests_of_days(tests)
        self.places = places_of(terms_of(of_days))
        self.gaps = first_gaps(list(self.places))
        self.unlikes = unlikes_of(self.places, of_days)
        self.fits = told(self.gaps, self.places, of_days) and spread(self.gaps, self.unlikes)

    def gap(self, one, other):
        """How many days the other one of two terms, perhaps new ones, is behind the one at least."""
        if one in self.places and other in self.places:
            return self.gaps[self.places[one]][self.places[other]]
        return 0 if one == other else self.window(other)[0] - self.window(one)[1]

    def window(self, term):
        """The first and the last day that a term can be, as far as is known."""
        if term in self.places:
            place = self.places[term]
            return self.gaps[0][place], -self.gaps[place][0]
        return window_of(term)

    def are_same(self, one, other):
        """Whether two terms are known to be one day."""
        return self.gap(one, other) == 0 and self.gap(other, one) == 0

    def are_unlike(self, one, other):
        """Whether two terms are known to be two days."""
        if self.gap(one, other) > 0 or self.gap(other, one) > 0:
            return True
        ones = [place for term, place in self.places.items() if self.are_same(one, term)]
        others = [place for term, place in self.places.items() if self.are_same(other, term)]
        return any([here in ones and there in others or here in others and there in ones
                    for here, there in self.unlikes])

    def says(self, test):
        """What Known says of a test of days."""
        word, one, other = test
        if word == "less":
            return _either(self.gap(one, other) > 0, self.gap(other, one) >= 0)
        if word == "most":
            return _either(self.gap(one, other) >= 0, self.gap(other, one) > 0)
        if word == "same":
            return _either(self.are_same(one, other), self.are_unlike(one, other))
        return _either(self.are_unlike(one, other), self.are_same(one, other))

    def solved(self):
        """The dict from all terms to days by which all tests hold; None if none do."""
        if not self.fits:
            return None
        gaps = settled(self.gaps, self.unlikes)
        if gaps is None:
            return None
        return {term: gaps[0][self.places[term]] for term in self.places}
