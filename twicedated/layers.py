"""Changes of one fact as layers over the days, later ones above: what they tell of each stretch of days."""

from heapq import heappop, heappush

from twicedated.books import SET
from twicedated.relations import LAST_DAY


def layers_of(changes, fact):
    """The (first, last, number) of the changes of a fact, out of changes with the numbers 1, 2, .."""
    return [(change[3], change[4], number) for number, change in enumerate(changes, start=1) if change[1:3] == fact]


def layers_by_fact(changes):
    """The dict of all facts of changes, ascending, to their layers."""
    found = {}
    for number, change in enumerate(changes, start=1):
        found.setdefault((change[1], change[2]), []).append((change[3], change[4], number))
    return {fact: found[fact] for fact in sorted(found)}


def numbers_on(layers, day):
    """The ascending list of the numbers of the layers that have a day."""
    return [number for first, last, number in layers if first <= day <= last]


def _borders_of(layers):
    """The dict of the days on which layers start to their numbers, that of numbers to last days, and all borders."""
    starts = {}
    ends = {}
    for first, last, number in layers:
        starts.setdefault(first, []).append(number)
        ends[number] = last
    borders = sorted(set([0, LAST_DAY + 1, *starts, *[last + 1 for _, last, _ in layers]]))
    return starts, ends, borders


def stretches(layers):
    """Yields (first, last, numbers) over all days: between borders of layers, which of them lie there, ascending."""
    starts, ends, borders = _borders_of(layers)
    over = []
    for first, behind in zip(borders, borders[1:]):
        over = sorted([number for number in over if ends[number] >= first] + starts.get(first, []))
        yield first, behind - 1, over


def topmost(layers):
    """The list of (first, last, number) over all days: between borders of layers, which one is the last there, or 0.

    Books are asked for often, and need no more than this; so a heap saves looking at all layers of each stretch.
    """
    starts, ends, borders = _borders_of(layers)
    told = []
    over = []
    for first, behind in zip(borders, borders[1:]):
        for number in starts.get(first, []):
            heappush(over, -number)
        while over and ends[-over[0]] < first:
            heappop(over)
        told.append((first, behind - 1, -over[0] if over else 0))
    return told


def longest(rows):
    """Ascending rows (first, last, thing), those that touch and tell the same thing put together."""
    told = []
    for first, last, thing in rows:
        if told and told[-1][1] + 1 == first and told[-1][2] == thing:
            told[-1] = (told[-1][0], last, thing)
        else:
            told.append((first, last, thing))
    return tuple(told)


def does_set(changes, number):
    """Whether the change with a number sets; 0 is none, and nothing is so without any."""
    return number > 0 and changes[number - 1][0] == SET


def top_of(numbers):
    """The last one of some numbers, 0 without any."""
    return numbers[-1] if numbers else 0


def known_days(changes, layers):
    """The ascending list of spans of days that the topmost layers set; spans may touch."""
    return [(first, last) for first, last, number in topmost(layers) if does_set(changes, number)]


def blame_among(changes, numbers):
    """Which of the changes with these ascending numbers, all of one fact and day, was the last to make a difference."""
    for below, number in reversed(list(zip([0, *numbers], numbers))):
        if does_set(changes, number) != does_set(changes, below):
            return number
    return 0


def moments_among(changes, numbers):
    """The longest (from, to) of moments at which these changes, all of one fact and day, let it be known."""
    told = []
    since = 0
    for number in numbers:
        if does_set(changes, number):
            since = since or number
        elif since:
            told.append((since, number - 1))
            since = 0
    if since:
        told.append((since, None))
    return tuple(told)


def columns_among(changes, layers):
    """The (first day, last day, moments) of the longest stretches of days that were known at the same moments."""
    told = [(first, last, moments_among(changes, over)) for first, last, over in stretches(layers)]
    return tuple([column for column in longest(told) if column[2]])
