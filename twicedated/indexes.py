"""Looking up what was known on a day at a moment, without looking at many columns.

Columns hang in a tree: at each node those that have its day, the others ahead and behind, half of them at most on
either side. Those of a node that have another day are the first ones by their first days, or by their last ones.
"""

from twicedated.histories import is_among
from twicedated.layers import columns_among, layers_by_fact


class Node:
    """Columns (first day, last day, names, moments) of one day, and the trees of those ahead of it and behind it."""

    def __init__(self, columns):
        """Of columns with ascending first days, at least one."""
        self.day = columns[len(columns) // 2][0]
        here = [column for column in columns if column[0] <= self.day <= column[1]]
        self.by_first = here
        self.by_last = sorted(here, key=lambda column: -column[1])
        self.ahead = _tree_of([column for column in columns if column[1] < self.day])
        self.behind = _tree_of([column for column in columns if column[0] > self.day])
        self.levels = 1 + max(_depth_of(self.ahead), _depth_of(self.behind))

    def next_to(self, day):
        """The tree in which other columns with a day are; None if there are none."""
        if day == self.day:
            return None
        return self.ahead if day < self.day else self.behind

    def looked_at(self, day):
        """The columns of this node that are looked at for a day: all that have it, and at most one more."""
        looked = []
        for column in self.by_first if day < self.day else self.by_last:
            looked.append(column)
            if not column[0] <= day <= column[1]:
                break
        return looked


def _tree_of(columns):
    """The tree of columns with ascending first days, None without any."""
    return Node(columns) if columns else None


def _depth_of(tree):
    """How many nodes stand one below the other in a tree."""
    return 0 if tree is None else tree.levels


class Index:
    """The columns of all facts of a relation of a history, so laid out that few are looked at."""

    def __init__(self, history, relation):
        found = []
        by_fact = layers_by_fact(history.changes)
        for fact in by_fact:
            if fact[0] == relation:
                for first, last, moments in columns_among(history.changes, by_fact[fact]):
                    found.append((first, last, fact[1], moments))
        self.tree = _tree_of(sorted(found, key=lambda column: column[0]))

    def depth(self):
        """How many columns are looked at, at most, beside those that have the day; 0 without any columns."""
        return _depth_of(self.tree)

    def known(self, day, moment):
        """The ascending list of the names known on a day at a moment, and how many columns were looked at for it."""
        names = []
        looked = 0
        tree = self.tree
        while tree is not None:
            columns = tree.looked_at(day)
            looked += len(columns)
            for first, last, told, moments in columns:
                if first <= day <= last and is_among(moment, moments):
                    names.append(told)
            tree = tree.next_to(day)
        return sorted(names), looked
