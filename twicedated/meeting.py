"""The fewest things that meet all lots, and trees that show that fewer don't do."""

from twicedated.errors import TooMany
from twicedated.relations import is_integer

# Keys of dicts are nested no deeper, so things of lots aren't, either.
DEEPEST = 8


def fewest_meeting(lots, most):
    """The fewest things such that each lot has one of them, and a tree that shows it; None if a lot is empty;
    TooMany if more trees would have to be made than most."""
    if most == 0:
        raise TooMany(most)
    rows = [_unlike(lot) for lot in lots]
    if not all([len(row) > 0 for row in rows]):
        return None
    if not rows:
        return (), None
    search = Search(rows, most)
    tree = None
    more = search.apart() - 1
    while True:
        things, higher = search.things_or_tree(more)
        if higher is None:
            # Integers stand ahead of tuples: the two can't be compared.
            return tuple(sorted(things, key=lambda thing: (isinstance(thing, tuple), thing))), tree
        tree = higher
        more += 1


def is_fewest_meeting(lots, things, tree):
    """Whether anybody's things meet all lots, and anybody's tree shows that fewer don't do."""
    if not isinstance(things, tuple) or not all([_is_thing(thing) for thing in things]):
        return False
    rows = [_unlike(lot) for lot in lots]
    met = _met_by(rows)
    unmet = _all_of(rows)
    taken = {}
    for thing in things:
        if thing in taken or thing not in met:
            return False
        taken[thing] = True
        unmet = unmet & ~met[thing]
    if unmet != 0:
        return False
    if not things:
        return tree is None
    return _is_tree(rows, met, tree, len(things) - 1)


def _unlike(lot):
    """The unlike things of a lot."""
    return list({thing: True for thing in lot})


def _all_of(rows):
    """The integer with a bit for each row."""
    return (1 << len(rows)) - 1


def _met_by(rows):
    """The dict from things to integers: a bit for each row that has it, the first row's being the lowest one."""
    met = {}
    for place, row in enumerate(rows):
        for thing in row:
            met[thing] = met.get(thing, 0) | 1 << place
    return met


class Frame:
    """A tree that is being made for so many more things: a lot's number, its things, and the branches so far."""

    def __init__(self, number, things, unmet, more):
        self.number = number
        self.things = things
        self.unmet = unmet
        self.more = more
        self.branches = []

    def is_whole(self):
        """Whether no branch is lacking."""
        return self.more == 0 or len(self.branches) == len(self.things)

    def thing(self):
        """The thing of the next branch."""
        return self.things[len(self.branches)]

    def tree(self):
        """The tree out of all branches."""
        return self.number, tuple(self.branches)


class Search:
    """Looks for few things that meet all of some rows of things, or for a tree that shows that so few don't.

    The rows that are unmet are the bits of an integer, rows of few things being the lowest: trees begin with the
    lowest one, as it has the fewest branches. A tree hangs on what is unmet alone, not on which things were taken, so
    it is made once for all ways there. Frames stand in a list, since trees may be deeper than calls.
    """

    def __init__(self, rows, most):
        self.order = sorted(range(len(rows)), key=lambda number: len(rows[number]))
        self.rows = [rows[number] for number in self.order]
        self.met = _met_by(self.rows)
        self.trees = {}
        self.looked = 0
        self.most = most

    def apart(self):
        """How many rows have nothing of each other, taken in turn: no fewer things meet all."""
        taken = {}
        many = 0
        for row in self.rows:
            if not any([thing in taken for thing in row]):
                many += 1
                for thing in row:
                    taken[thing] = True
        return many

    def things_or_tree(self, more):
        """A list of so many things that meet all rows, and None; if there are none, an empty one and a tree."""
        frames = [self.frame(_all_of(self.rows), more)]
        while True:
            frame = frames[-1]
            if frame.is_whole():
                tree = frame.tree()
                self.trees[(frame.unmet, frame.more)] = tree
                frames.pop()
                if not frames:
                    return [], tree
                frames[-1].branches.append((frames[-1].thing(), tree))
            else:
                unmet = frame.unmet & ~self.met[frame.thing()]
                tree = self.trees.get((unmet, frame.more - 1))
                if unmet == 0:
                    return [above.thing() for above in frames], None
                if tree is None:
                    frames.append(self.frame(unmet, frame.more - 1))
                else:
                    frame.branches.append((frame.thing(), tree))

    def frame(self, unmet, more):
        """A new frame for what is unmet; TooMany."""
        self.looked += 1
        if self.looked > self.most:
            raise TooMany(self.most)
        lowest = (unmet & -unmet).bit_length() - 1
        return Frame(self.order[lowest], self.rows[lowest], unmet, more)


def _is_tree(rows, met, tree, more):
    """Whether anything is a tree for so many more things, behind none. Trees wait in a list, however deep they are."""
    waiting = [(tree, _all_of(rows), more)]
    while waiting:
        told, unmet, left = waiting.pop()
        branches = _branches_of(told, rows, unmet, left)
        if branches is None:
            return False
        for thing, smaller in branches:
            waiting.append((smaller, unmet & ~met[thing], left - 1))
    return True


def _branches_of(told, rows, unmet, more):
    """The branches of anything that is a tree for so many more things but for what is in its branches, else None."""
    if not _is_pair(told):
        return None
    number, branches = told
    if not is_integer(number) or not 0 <= number < len(rows) or unmet >> number & 1 == 0:
        return None
    if not isinstance(branches, tuple):
        return None
    if more == 0:
        return None if branches else ()
    if not all([_is_pair(branch) and _is_thing(branch[0]) for branch in branches]):
        return None
    if set([branch[0] for branch in branches]) != set(rows[number]):
        return None
    return branches


def _is_pair(thing):
    """Whether anything is a tuple of two."""
    return isinstance(thing, tuple) and len(thing) == 2


def _is_thing(thing):
    """Whether anything can be a thing of a lot: an integer, or a tuple that can be looked up without harm."""
    return is_integer(thing) or isinstance(thing, tuple) and _is_plain(thing, DEEPEST)


def _is_plain(thing, deepest):
    """Whether anything is made of integers, texts, bytes and None, in tuples nested at most so deep."""
    if isinstance(thing, tuple):
        return deepest > 0 and all([_is_plain(part, deepest - 1) for part in thing])
    return thing is None or is_integer(thing) or isinstance(thing, (str, bytes))
