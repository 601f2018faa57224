"""The things of lots, integers and tuples, with numbers, and told apart by what stands in them.

No thing is a key as it is, but the flat row of what stands in it: so a tuple may have anything in it that can be a key,
and be as deep as it likes. Of what anybody hands in nothing is a key unless it has kinds like a thing of a lot.
"""

from twicedated.relations import is_integer

# The sorts of what can be compared, as they ascend: an integer by itself is ahead of all tuples, and the end of a
# tuple ahead of whatever stands there in a longer one.
END = 0
RANKS = {"int": 1, "bool": 1, "float": 1, "str": 2, "bytes": 3, "NoneType": 4}
TUPLE = 5
OTHER = 6


def _kind_of(part):
    """The name of the class of anything."""
    return part.__class__.__name__


def _parts_of(thing, most):
    """The list of what stands in anything, tuples and their ends as marks: (mark, part). None if there is more than so
    much: with tuples that stand in each other twice, anything can be endless; most None is no bound."""
    parts = []
    waiting = [(OTHER, thing)]
    while waiting:
        if most is not None and len(parts) + len(waiting) > most:
            return None
        mark, part = waiting.pop()
        if mark == OTHER and isinstance(part, tuple):
            parts.append((TUPLE, None))
            waiting.append((END, None))
            waiting.extend([(OTHER, inner) for inner in part[::-1]])
        else:
            parts.append((mark, part))
    return parts


def _kinds_of(parts):
    """The kinds of all parts: things of unlike kinds aren't the same, even if Python says that they are equal."""
    return tuple([_kind_of(part) if mark == OTHER else mark for mark, part in parts])


def _row_of(parts):
    """The flat row of parts, which is equal where the things are, and ascends as they do."""
    return tuple([(RANKS.get(_kind_of(part), OTHER) if mark == OTHER else mark, part) for mark, part in parts])


def _order_of(row):
    """What lets flat rows be sorted, even where parts can't be compared: these stand by their kinds."""
    return [(rank, _kind_of(part)) if rank == OTHER else (rank, part) for rank, part in row]


class Catalog:
    """The unlike things of lots, by their numbers; and lots, the lists of the unlike numbers of each."""

    def __init__(self, lots):
        self.things = []
        self.rows = []
        self.numbers = {}
        self.by_kinds = {}
        self.longest = 0
        self.lots = [list({self.put(thing): True for thing in lot}) for lot in lots]

    def put(self, thing):
        """The number of a thing of a lot, a new one if it has none."""
        parts = _parts_of(thing, None)
        self.longest = max(self.longest, len(parts))
        row = _row_of(parts)
        if row not in self.numbers:
            self.numbers[row] = len(self.things)
            self.things.append(thing)
            self.rows.append(row)
        self.by_kinds.setdefault(_kinds_of(parts), {})[row] = self.numbers[row]
        return self.numbers[row]

    def number_of(self, thing):
        """The number of anything that stands in a lot as it is; None if it doesn't, or is no integer and no tuple."""
        if not is_integer(thing) and not isinstance(thing, tuple):
            return None
        parts = _parts_of(thing, self.longest)
        if parts is None:
            return None
        found = self.by_kinds.get(_kinds_of(parts))
        return None if found is None else found.get(_row_of(parts))

    def ascending(self, numbers):
        """The ascending tuple of the things with some numbers."""
        ordered = sorted(numbers, key=lambda number: _order_of(self.rows[number]))
        return tuple([self.things[place] for place in ordered])
