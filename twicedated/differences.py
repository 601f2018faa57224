"""What was known otherwise at two moments, and which changes are to blame."""

from twicedated.layers import blame_among, layers_of, longest, stretches
from twicedated.spans import less


def differences(history, one, other):
    """The dict of the facts that weren't known alike at two moments to (days gone, days come); BadMoment."""
    was = history.book_at(one).rows
    now = history.book_at(other).rows
    told = {}
    for fact in sorted(set([*was, *now])):
        gone = less(was.get(fact, ()), now.get(fact, ()))
        come = less(now.get(fact, ()), was.get(fact, ()))
        if gone or come:
            told[fact] = (gone, come)
    return told


def blamed(history, fact, spans, moment):
    """The (first, last, number) of the longest stretches of a row of spans with one blame at a moment; BadMoment."""
    changes = history.changes_up_to(moment)
    layers = layers_of(changes, fact)
    told = [(first, last, blame_among(changes, over)) for first, last, over in stretches(layers)]
    return longest(_cut(told, spans))


def _cut(rows, spans):
    """What a row of spans has of ascending rows (first, last, thing) over all days."""
    told = []
    at = 0
    for start, end in spans:
        while rows[at][1] < start:
            at += 1
        told.append((start, min(end, rows[at][1]), rows[at][2]))
        while rows[at][1] < end:
            at += 1
            told.append((rows[at][0], min(end, rows[at][1]), rows[at][2]))
    return told


def explained(history, one, other):
    """The dict of the facts of differences to all days gone or come, each with its blame at the later moment."""
    found = differences(history, one, other)
    later = max(one, other)
    told = {}
    for fact in found:
        gone, come = found[fact]
        told[fact] = tuple(sorted(blamed(history, fact, gone, later) + blamed(history, fact, come, later)))
    return told
