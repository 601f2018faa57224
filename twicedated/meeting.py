"""The fewest things that meet all lots, and trees that show that fewer don't do."""

from twicedated.errors import TooMany
from twicedated.relations import is_integer
from twicedated.things import Catalog


def fewest_meeting(lots, most):
    """The fewest things such that each lot has one of them, and a tree that shows it; None if a lot is empty;
    TooMany if more trees would have to be made than most."""
    if most == 0:
        raise TooMany(most)
    catalog = Catalog(lots)
    if not all([len(row) > 0 for row in catalog.lots]):
        return None
    if not catalog.lots:
        return (), None
    search = Search(catalog, most)
    tree = None
    more = search.apart() - 1
    while True:
        numbers, higher = search.numbers_or_tree(more)
        if higher is None:
            return catalog.ascending(numbers), tree
        tree = higher
        more += 1


def is_fewest_meeting(lots, things, tree):
    """Whether anybody's things meet all lots, and anybody's tree shows that fewer don't do."""
    if not isinstance(things, tuple):
        return False
    catalog = Catalog(lots)
    met = _met_by(catalog.lots)
    unmet = _all_of(catalog.lots)
    taken = {}
    for thing in things:
        number = catalog.number_of(thing)
        if number is None or number in taken:
            return False
        taken[number] = True
        unmet = unmet & ~met[number]
    if unmet != 0:
        return False
    if not things:
        return tree is None
    return _is_tree(catalog, met, tree, len(things) - 1)


def _all_of(rows):
    """The integer with a bit for each row."""
    return (1 << len(rows)) - 1


def _met_by(rows):
    """The dict from numbers of things to integers: a bit for each row that has it, the first row's the lowest one."""
    met = {}
    for place, row in enumerate(rows):
        for number in row:
            met[number] = met.get(number, 0) | 1 << place
    return met


class Frame:
    """A tree that is being made for so many more things: a lot's number, its things' numbers, and the branches."""

    def __init__(self, lot, numbers, unmet, more):
        self.lot = lot
        self.numbers = numbers
        self.unmet = unmet
        self.more = more
        self.branches = []

    def is_whole(self):
        """Whether no branch is lacking."""
        return self.more == 0 or len(self.branches) == len(self.numbers)

    def number(self):
        """The number of the thing of the next branch."""
        return self.numbers[len(self.branches)]

    def tree(self):
        """The tree out of all branches."""
        return self.lot, tuple(self.branches)


class Search:
    """Looks for few things that meet all lots of a catalog, or for a tree that shows that so few don't.

    The rows that are unmet are the bits of an integer, rows of few things being the lowest: trees begin with the
    lowest one, as it has the fewest branches. A tree hangs on what is unmet alone, not on which things were taken, so
    it is made once for all ways there. Frames stand in a list, since trees may be deeper than calls.
    """

    def __init__(self, catalog, most):
        self.things = catalog.things
        self.order = sorted(range(len(catalog.lots)), key=lambda lot: len(catalog.lots[lot]))
        self.rows = [catalog.lots[lot] for lot in self.order]
        self.met = _met_by(self.rows)
        self.trees = {}
        self.looked = 0
        self.most = most

    def apart(self):
        """How many rows have nothing of each other, taken in turn: no fewer things meet all."""
        taken = {}
        many = 0
        for row in self.rows:
            if not any([number in taken for number in row]):
                many += 1
                for number in row:
                    taken[number] = True
        return many

    def numbers_or_tree(self, more):
        """A list of the numbers of so many things that meet all rows, and None; if none do, an empty one and a tree."""
        frames = [self.frame(_all_of(self.rows), more)]
        while True:
            frame = frames[-1]
            if frame.is_whole():
                tree = frame.tree()
                self.trees[(frame.unmet, frame.more)] = tree
                frames.pop()
                if not frames:
                    return [], tree
                self.put_branch(frames[-1], tree)
            else:
                unmet = frame.unmet & ~self.met[frame.number()]
                tree = self.trees.get((unmet, frame.more - 1))
                if unmet == 0:
                    return [above.number() for above in frames], None
                if tree is None:
                    frames.append(self.frame(unmet, frame.more - 1))
                else:
                    self.put_branch(frame, tree)

    def put_branch(self, frame, tree):
        """Puts to a frame the tree behind the thing of its next branch."""
        frame.branches.append((self.things[frame.number()], tree))

    def frame(self, unmet, more):
        """A new frame for what is unmet; TooMany."""
        self.looked += 1
        if self.looked > self.most:
            raise TooMany(self.most)
        lowest = (unmet & -unmet).bit_length() - 1
        return Frame(self.order[lowest], self.rows[lowest], unmet, more)


def _is_tree(catalog, met, tree, more):
    """Whether anything is a tree for so many more things, behind none. Trees wait in a list, however deep they are."""
    waiting = [(tree, _all_of(catalog.lots), more)]
    while waiting:
        told, unmet, left = waiting.pop()
        branches = _branches_of(told, catalog, unmet, left)
        if branches is None:
            return False
        for number, smaller in branches:
            waiting.append((smaller, unmet & ~met[number], left - 1))
    return True


def _branches_of(told, catalog, unmet, more):
    """The (number of a thing, smaller tree) of anything that is a tree for so many more things, as far as is seen
    without looking into the smaller trees; None if it is none."""
    if not _is_pair(told):
        return None
    lot, branches = told
    if not is_integer(lot) or not 0 <= lot < len(catalog.lots) or unmet >> lot & 1 == 0:
        return None
    if not isinstance(branches, tuple):
        return None
    if more == 0:
        return None if branches else []
    if not all([_is_pair(branch) for branch in branches]):
        return None
    found = [(catalog.number_of(thing), smaller) for thing, smaller in branches]
    if any([number is None for number, _ in found]):
        return None
    if set([number for number, _ in found]) != set(catalog.lots[lot]):
        return None
    return found


def _is_pair(thing):
    """Whether anything is a tuple of two."""
    return isinstance(thing, tuple) and len(thing) == 2
