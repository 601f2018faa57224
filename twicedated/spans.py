"""Spans of days, and rows of spans: one form for each set of days."""

from twicedated.errors import BadSpans
from twicedated.relations import LAST_DAY, is_day

# The row of all days.
EVER = ((0, 999999),)


def is_span(thing):
    """Whether anything is a span: a tuple of two days, the first one not behind the last one."""
    if not isinstance(thing, tuple) or len(thing) != 2:
        return False
    first, last = thing
    return is_day(first) and is_day(last) and first <= last


def normal(spans):
    """The row of the days of some spans, in any order; BadSpans for the first thing that is none."""
    for number, span in enumerate(spans):
        if not is_span(span):
            raise BadSpans(number)
    return _melted(sorted(spans))


def _melted(spans):
    """The row of the days of ascending spans, which may overlap or touch."""
    row = []
    for first, last in spans:
        if row and first <= row[-1][1] + 1:
            row[-1] = (row[-1][0], max(row[-1][1], last))
        else:
            row.append((first, last))
    return tuple(row)


def union(one, other):
    """The days that are in one of two rows."""
    return _melted(sorted([*one, *other]))


def meet(one, other):
    """The days that are in both rows."""
    row = []
    here = there = 0
    while here < len(one) and there < len(other):
        first = max(one[here][0], other[there][0])
        last = min(one[here][1], other[there][1])
        if first <= last:
            row.append((first, last))
        if one[here][1] < other[there][1]:
            here += 1
        else:
            there += 1
    return tuple(row)


def others(one):
    """All days that are not in a row."""
    row = []
    free = 0
    for first, last in one:
        if free < first:
            row.append((free, first - 1))
        free = last + 1
    if free <= LAST_DAY:
        row.append((free, LAST_DAY))
    return tuple(row)


def less(one, other):
    """The days that the one row has and the other one hasn't."""
    return meet(one, others(other))


def unlike(one, other):
    """The days that just one of two rows has."""
    return union(less(one, other), less(other, one))


def _ended_ahead(one, day):
    """How many spans of a row end ahead of a day."""
    low = 0
    high = len(one)
    while low < high:
        middle = (low + high) // 2
        if one[middle][1] < day:
            low = middle + 1
        else:
            high = middle
    return low


def has(one, day):
    """Whether a row has a day."""
    place = _ended_ahead(one, day)
    return place < len(one) and one[place][0] <= day


def first_from(one, day):
    """The first day of a row that isn't ahead of a day, None if there is none."""
    place = _ended_ahead(one, day)
    return max(one[place][0], day) if place < len(one) else None


def last_until(one, day):
    """The last day of a row that isn't behind a day, None if there is none."""
    place = _ended_ahead(one, day)
    if place < len(one) and one[place][0] <= day:
        return day
    return one[place - 1][1] if place > 0 else None


def how_many(one):
    """How many days a row has."""
    return sum([last - first + 1 for first, last in one])


def is_part(one, other):
    """Whether all days of the one row are the other one's."""
    return less(one, other) == ()


def breaks(one):
    """The ascending list of the numbers d such that just one of d and d - 1 is in a row."""
    found = []
    for first, last in one:
        found.append(first)
        found.append(last + 1)
    return found
