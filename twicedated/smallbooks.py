"""Small books: names and days by which a case comes about; where there are none, a tree that tells why."""

from twicedated.errors import TooMany
from twicedated.gaps import loosen, settled
from twicedated.matches import matched, needed
from twicedated.orders import Known
from twicedated.terms import NOW
from twicedated.trees import CLASH, tells_apart, ways_of


def _row_terms(row):
    """The list of the terms of a row."""
    return [*row[1], row[2]]


class Node:
    """Two terms that are compared: what is known by each way to do so, and the trees for the ways so far.

    The ways by which a test doesn't hold come first: it is compared because it bars what would come about else.
    """

    def __init__(self, known, test):
        self.one = test[1]
        self.other = test[2]
        knowns = [known.more([way]) for way in ways_of(self.one, self.other)]
        order = [place for place in range(len(knowns)) if knowns[place].says(test) is not True]
        order.extend([place for place in range(len(knowns)) if place not in order])
        self.waiting = [(place, knowns[place]) for place in order]
        self.trees = {}

    def next_known(self):
        """What is known by the next way."""
        return self.waiting[0][1]

    def put(self, tree):
        """The tree for the next way."""
        self.trees[self.waiting[0][0]] = tree
        self.waiting = self.waiting[1:]

    def tree(self):
        """The tree out of those for all ways."""
        return self.one, self.other, tuple([self.trees[place] for place in sorted(self.trees)])


class Quest:
    """Looks for names and days by which a case comes about.

    What is known is what follows without the tests that tell days to be unlike: these are only looked at where both
    days are compared, so that whoever walks the tree sees all that it needs.
    """

    def __init__(self, case, most):
        self.case = case
        self.most = most
        self.compared = 0
        self.apart = [test for test in case.tests if tells_apart(test)]
        self.needs = {}

    def start(self):
        """What is known by the case itself; that terms are themselves only lets them have places."""
        terms = [NOW] + [term for row in self.case.all_rows() for term in _row_terms(row)]
        terms.extend([term for test in self.apart for term in test[1:]])
        plain = [test for test in self.case.tests if not tells_apart(test)]
        return Known([("same", term, term) for term in terms] + plain)

    def needs_of(self, bar, number, rows):
        """The tests that a bar's clause needs to match rows with these numbers."""
        key = (bar.word, number, rows)
        if key not in self.needs:
            told = [bar.rows[place] for place in rows]
            self.needs[key] = needed(bar.clauses[number], told, bar.asked, self.case.head)
        return self.needs[key]

    def worths(self, known):
        """Names and days of all terms by which what is known and the case's tests hold; None if there are none."""
        days = known.days
        pairs = [(days.places[one], days.places[other]) for _, one, other in self.apart]
        gaps = settled(days.gaps, pairs)
        if gaps is None:
            return None
        loosen(gaps, pairs)
        found = known.names.solved()
        for term, place in days.places.items():
            found[term] = gaps[0][place]
        return found

    def matching(self, worths):
        """Yields what bars by some names and days: (bar, number of its clause, numbers of its rows)."""
        head = [worths[term] for term in self.case.head]
        for bar in self.case.bars:
            points = [point_of(row, worths) for row in bar.rows]
            for number, clause in enumerate(bar.clauses):
                for rows, inner in matched(clause, points, worths[NOW]):
                    if bar.asked is None or [inner[term] for term in bar.asked] == head:
                        yield bar, number, rows

    def look(self, known):
        """What is seen of a way: (leaf, None, None), or (None, names and days by which the case comes about, None),
        or (None, None, a test of two terms that are still to be compared)."""
        if not known.fits() or any([known.says(test) is False for test in self.apart]):
            return CLASH, None, None
        worths = self.worths(known)
        if worths is None:
            test = [test for test in self.apart if known.says(test) is None][0]
            return None, None, ("same", test[1], test[2])
        best = None
        for bar, number, rows in self.matching(worths):
            left = [test for test in self.needs_of(bar, number, rows) if known.says(test) is not True]
            if not left:
                return (bar.word, number, rows), None, None
            if best is None or len(left) < len(best):
                best = left
        return (None, worths, None) if best is None else (None, None, best[0])

    def node(self, known, test):
        """The node that compares the terms of a test; TooMany."""
        self.compared += 1
        if self.compared > self.most:
            raise TooMany(self.most)
        return Node(known, test)


def point_of(row, worths):
    """The point that a row is by names and days."""
    return row[0], tuple([worths[term] for term in row[1]]), worths[row[2]]


def points_of(rows, worths):
    """The ascending tuple of the unlike points that rows are by names and days."""
    return tuple(sorted(set([point_of(row, worths) for row in rows])))


def tree_or_worths(case, most):
    """A tree for a case, and None; or, if it comes about, None, and names and days of its terms; TooMany."""
    quest = Quest(case, most)
    nodes = []
    known = quest.start()
    while True:
        tree, worths, test = quest.look(known)
        if worths is not None:
            return None, worths
        if test is not None:
            nodes.append(quest.node(known, test))
        else:
            tree = _put_up(nodes, tree)
            if not nodes:
                return tree, None
        known = nodes[-1].next_known()


def _put_up(nodes, tree):
    """Puts a tree to the last one of some nodes; those that are whole then are put to the ones above. The last tree."""
    while nodes:
        nodes[-1].put(tree)
        if nodes[-1].waiting:
            break
        tree = nodes.pop().tree()
    return tree
