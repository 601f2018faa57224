"""Days that are compared: by how many days the one is behind the other one at least.

Gaps are a list of lists of integers: gaps[low][high] is the greatest one such that the day at place high is known to
be at least so many days behind the one at place low. Place 0 is day 0, the others are terms. Gaps are whole: whatever
follows from two of them by way of a third place is told by them.
"""

from twicedated.relations import LAST_DAY


def window_of(term):
    """The first and the last day that a term of days can be."""
    return (term[1], term[1]) if term[0] == "day" else (0, LAST_DAY)


def places_of(terms):
    """The dict from terms to their places in gaps."""
    return {term: place for place, term in enumerate(terms, start=1)}


def first_gaps(terms):
    """The gaps of unlike terms of days of which nothing is told."""
    windows = [(0, 0)] + [window_of(term) for term in terms]
    gaps = [[least - most for least, _ in windows] for _, most in windows]
    for place in range(len(gaps)):
        gaps[place][place] = 0
    return gaps


def widen(gaps, term):
    """Puts one more place to gaps, the last one, for a term of days of which nothing is told."""
    least, most = window_of(term)
    row = [gap - most for gap in gaps[0]]
    for known in gaps:
        known.append(known[0] + least)
    gaps.append([*row, 0])


def tighten(gaps, low, high, gap):
    """Whether the day at place high can be at least so many days behind that at place low; if so, gaps then tell it."""
    if gaps[low][high] >= gap:
        return True
    if gaps[high][low] + gap > 0:
        return False
    behind = list(gaps[high])
    for row in gaps:
        start = row[low] + gap
        for place, more in enumerate(behind):
            if start + more > row[place]:
                row[place] = start + more
    return True


def told(gaps, places, tests):
    """Whether tests of days can hold, but for what they tell to be unlike; if so, gaps then tell them."""
    for word, one, other in tests:
        low = places[one]
        high = places[other]
        if word == "less" and not tighten(gaps, low, high, 1):
            return False
        if word in ("most", "same") and not tighten(gaps, low, high, 0):
            return False
        if word == "same" and not tighten(gaps, high, low, 0):
            return False
    return True


def unlikes_of(places, tests):
    """The pairs of places of days that tests tell to be unlike."""
    return [(places[one], places[other]) for word, one, other in tests if word == "unlike"]


def spread(gaps, unlikes):
    """Whether the days of these pairs can be unlike, as far as one pair after the other shows; if so, gaps then tell
    all that follows where the one day isn't ahead of the other one: that it is behind it."""
    is_new = True
    while is_new:
        is_new = False
        for one, other in unlikes:
            for low, high in ((one, other), (other, one)):
                if gaps[low][high] == 0:
                    if not tighten(gaps, low, high, 1):
                        return False
                    is_new = True
    return True


def loosen(gaps, unlikes):
    """Lets more days be unlike in the least days, as far as one pair after the other shows; those of these pairs, which
    are, stay so."""
    for one, other in unlikes:
        if gaps[0][one] < gaps[0][other]:
            tighten(gaps, one, other, 1)
        else:
            tighten(gaps, other, one, 1)
    for one in range(1, len(gaps)):
        for other in range(1, one):
            if gaps[0][one] == gaps[0][other] and not tighten(gaps, other, one, 1):
                tighten(gaps, one, other, 1)


def _are_apart(gaps, told_apart, one, other):
    """Whether two places are known to have unlike days."""
    return (one, other) in told_apart or (other, one) in told_apart or gaps[one][other] > 0 or gaps[other][one] > 0


def _has_room(gaps, unlikes):
    """Whether no stretch of days is seen that has fewer days than places that lie in it and are all unlike.

    This finds nothing that trying wouldn't find, but spares trying all orders of many places in few days.
    """
    told_apart = {pair: True for pair in unlikes}
    places = sorted(set([place for pair in unlikes for place in pair]))
    for first in sorted(set([gaps[0][place] for place in places])):
        for last in sorted(set([-gaps[place][0] for place in places])):
            many = last - first + 1
            if 0 < many < len(places):
                inside = [place for place in places if first <= gaps[0][place] and -gaps[place][0] <= last]
                if _how_many_apart(gaps, told_apart, inside) > many:
                    return False
    return True


def _how_many_apart(gaps, told_apart, places):
    """How many of some places are known to have unlike days, all of them, taken in turn."""
    apart = []
    for place in places:
        if all([_are_apart(gaps, told_apart, place, other) for other in apart]):
            apart.append(place)
    return len(apart)


def _in_either_order(gaps, pair):
    """Copies of gaps with the one day of a pair ahead of the other one, and behind it, as far as that can be."""
    found = []
    for low, high in (pair, pair[::-1]):
        more = [list(row) for row in gaps]
        if tighten(more, low, high, 1):
            found.append(more)
    return found


def _room_of(gaps, place):
    """How many days a place can have."""
    return -gaps[place][0] - gaps[0][place] + 1


def _tightest(gaps, unlikes):
    """Of the pairs whose least days aren't unlike the one that has the fewest days to be on; None if there is none."""
    pairs = [(one, other) for one, other in unlikes if gaps[0][one] == gaps[0][other]]
    return min(pairs, key=lambda pair: _room_of(gaps, pair[0]) + _room_of(gaps, pair[1]), default=None)


def settled(gaps, unlikes):
    """Gaps the least days of which are unlike in all of these pairs, and as they are else; None if there are none."""
    waiting = [gaps]
    while waiting:
        tried = [list(row) for row in waiting.pop()]
        if spread(tried, unlikes) and _has_room(tried, unlikes):
            pair = _tightest(tried, unlikes)
            if pair is None:
                return tried
            waiting.extend(_in_either_order(tried, pair)[::-1])
    return None


def decided(gaps, unlikes):
    """The list of all gaps, as these are, in which of each of these pairs the one day is ahead of the other one."""
    found = []
    waiting = [gaps]
    while waiting:
        tried = [list(row) for row in waiting.pop()]
        if spread(tried, unlikes):
            pairs = [(one, other) for one, other in unlikes if tried[one][other] < 0 and tried[other][one] < 0]
            if not pairs:
                found.append(tried)
            else:
                waiting.extend(_in_either_order(tried, pairs[0]))
    return found
