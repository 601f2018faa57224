"""The fewest changes from one book to another, and heights that show that fewer don't do."""

from twicedated.books import CLEAR, SET, Book, change_fault, row_behind
from twicedated.relations import LAST_DAY, is_fact, is_integer
from twicedated.spans import breaks, has


def fewest_between(one, other):
    """As few changes as can be that lead from one book to another, and heights that show it."""
    changes = []
    heights = {}
    for fact in sorted(set([*one.rows, *other.rows])):
        was = one.rows.get(fact, ())
        now = other.rows.get(fact, ())
        if was != now:
            borders, alikes, runs = _segments(was, now)
            heights[fact], chosen = _climbed(alikes, runs)
            for first, last in _covered(chosen):
                changes.extend(_painted(fact, now, _edges(borders, runs, first, last)))
    return tuple(changes), heights


def is_fewest(one, other, changes, heights):
    """Whether anybody's changes lead from one book to another, and anybody's heights show that fewer don't do."""
    if not isinstance(one, Book) or not isinstance(other, Book):
        return False
    if not isinstance(changes, tuple) or not isinstance(heights, dict):
        return False
    total = 0
    for fact in heights:
        if not is_fact(one.relations, fact):
            return False
        _, alikes, runs = _segments(one.rows.get(fact, ()), other.rows.get(fact, ()))
        if not _are_heights(heights[fact], alikes, runs):
            return False
        total += heights[fact][-1]
    return total >= len(changes) and _do_lead(one, other, changes)


def _segments(was, now):
    """The segments of two rows: their first days and the day behind all; whether both rows are alike in each; and the
    number of the run, from 0 on, that each is in by the latter row."""
    borders = sorted(set([0, LAST_DAY + 1, *breaks(was), *breaks(now)]))
    before = [has(was, day) for day in borders[:-1]]
    after = [has(now, day) for day in borders[:-1]]
    runs = [0]
    for is_so, is_so_next in zip(after, after[1:]):
        runs.append(runs[-1] + (1 if is_so != is_so_next else 0))
    return borders, [one == other for one, other in zip(before, after)], runs


def _cheapest_start(starts, heights, runs, segment):
    """Of the segments up to this one that lie in runs like its own, the one from which covering all between costs
    least; starts keep it, by evenness of runs, as it stays the cheapest one for all such segments behind.

    Other starts, from which there is an even number of runs, needn't be looked at: covering these costs as much as
    covering all but the last run, and that one alone. Of equal starts the later one leaves more days as they are.
    """
    even = runs[segment] % 2
    best = starts.get(even, segment)
    if 2 * heights[segment] - runs[segment] <= 2 * heights[best] - runs[best]:
        best = segment
    starts[even] = best
    return best


def _behind(heights, runs, start, segment):
    """The height behind a segment, if changes cover an odd number of runs from a start up to it."""
    return heights[start] + (runs[segment] - runs[start]) // 2 + 1


def _climbed(alikes, runs):
    """The greatest heights; and for each segment from which one on changes cover all up to it, None if none need to."""
    heights = [0]
    chosen = []
    starts = {}
    for segment, alike in enumerate(alikes):
        start = _cheapest_start(starts, heights, runs, segment)
        heights.append(heights[segment] if alike else _behind(heights, runs, start, segment))
        chosen.append(None if alike else start)
    return tuple(heights), chosen


def _covered(chosen):
    """The ascending list of (first, last) of the segments that changes cover without a gap."""
    found = []
    segment = len(chosen) - 1
    while segment >= 0:
        start = chosen[segment]
        if start is not None:
            found.append((start, segment))
            segment = start
        segment -= 1
    return found[::-1]


def _edges(borders, runs, first, last):
    """The first days of the runs from a segment up to another one, and the day behind them."""
    inner = [borders[segment] for segment in range(first + 1, last + 1) if runs[segment] != runs[segment - 1]]
    return [borders[first], *inner, borders[last + 1]]


def _painted(fact, row, edges):
    """The fewest changes that cover an odd number of runs, with these edges, and leave a fact as it is in a row."""
    changes = []
    low = 0
    high = len(edges) - 1
    while low < high:
        # One change for both outer runs, which are alike, at once; then the inner ones.
        word = SET if has(row, edges[low]) else CLEAR
        changes.append((word, fact[0], fact[1], edges[low], edges[high] - 1))
        low += 1
        high -= 1
    return changes


def _are_heights(thing, alikes, runs):
    """Whether anything is heights over segments."""
    many = len(alikes)
    if not isinstance(thing, tuple) or len(thing) != many + 1:
        return False
    if not all([is_integer(height) and 0 <= height <= many for height in thing]) or thing[0] != 0:
        return False
    starts = {}
    for segment, alike in enumerate(alikes):
        start = _cheapest_start(starts, thing, runs, segment)
        if thing[segment + 1] > _behind(thing, runs, start, segment):
            return False
        if alike and thing[segment + 1] > thing[segment]:
            return False
    return True


def _do_lead(one, other, changes):
    """Whether a tuple of anything is of changes that lead from one book to another."""
    rows = {fact: one.rows[fact] for fact in one.rows}
    for change in changes:
        if change_fault(one.relations, change) is not None:
            return False
        fact = (change[1], change[2])
        rows[fact] = row_behind(rows.get(fact, ()), change)
    return Book(one.relations, rows) == other
