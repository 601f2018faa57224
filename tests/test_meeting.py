"""[12]: the fewest things that meet all lots, against trying all; and the judge of anybody's things and trees."""

import itertools
import unittest

from helpers import NO_INTEGERS, dice
from twicedated.errors import TooMany
from twicedated.meeting import fewest_meeting, is_fewest_meeting

NEVER = 10 ** 9
POINTS = [("lives", ("ann", "rome"), 5), ("lives", ("ann", "oslo"), 5), ("pays", ("ann",), 0), ("pays", ("bob",), 999999)]
NO_TREES = [None, 5, True, "tree", (), (0,), (0, (), ()), [0, ()], (0, []), (0, None), (0, 5), (None, ()), ("0", ()),
            (0.0, ()), ((0,), ()), (-1, ()), (99, ()), (10 ** 30, ()), (True, ()), (False, ()), {}, {0: ()}, object(),
            (0, {}), (0, "")]


def fewest(lots):
    """How many things meet all lots, by trying all; None if none do."""
    things = sorted({thing for lot in lots for thing in lot})
    for many in range(len(things) + 1):
        for some in itertools.combinations(things, many):
            if all(set(some) & set(lot) for lot in lots):
                return many
    return None


def is_tree(lots, tree, more, taken):
    """Whether it is a tree as the document says, of things that are integers."""
    number, branches = tree
    if not 0 <= number < len(lots) or set(lots[number]) & taken:
        return False
    if more == 0:
        return branches == ()
    if {thing for thing, _ in branches} != set(lots[number]):
        return False
    return all(is_tree(lots, smaller, more - 1, taken | {thing}) for thing, smaller in branches)


def some_lots(number, things=range(7)):
    """Some lots of few things, none empty, some things twice."""
    chance = dice(number)
    return [[chance.choice(things) for _ in range(chance.choice([1, 2, 2, 3, 3, 4]))] for _ in range(number % 8)]


def places(tree):
    """The ways to all nodes of a tree, as rows of numbers of branches."""
    if tree is None:
        return []
    return [()] + [(k, *way) for k, (_, smaller) in enumerate(tree[1]) for way in places(smaller)]


def put_at(tree, way, node):
    """The tree with another thing at the end of a way."""
    if not way:
        return node
    branches = list(tree[1])
    thing, smaller = branches[way[0]]
    branches[way[0]] = (thing, put_at(smaller, way[1:], node))
    return tree[0], tuple(branches)


def at(tree, way):
    """The node at the end of a way."""
    for k in way:
        tree = tree[1][k][1]
    return tree


class MeetingTest(unittest.TestCase):
    def look_at(self, lots):
        handed = [list(lot) for lot in lots]
        told = fewest_meeting(lots, NEVER)
        self.assertEqual([list(lot) for lot in lots], handed)
        things, tree = told
        self.assertIsInstance(told, tuple)
        self.assertIsInstance(things, tuple)
        self.assertEqual(list(things), sorted(set(things)))
        self.assertEqual(len(things), fewest(lots))
        self.assertTrue(all(set(things) & set(lot) for lot in lots))
        self.assertTrue(is_tree(lots, tree, len(things) - 1, set()) if things else tree is None)
        self.assertIs(is_fewest_meeting(lots, things, tree), True)
        self.assertEqual(fewest_meeting(tuple(tuple(lot) for lot in lots), NEVER), told)

    def test_against_trying_all(self):
        for number in range(300):
            self.look_at(some_lots(number))
        for number in range(60):
            self.look_at(some_lots(number, POINTS))
        for number in range(30):
            self.look_at(some_lots(number, [-5, 0, 10 ** 20, 7]))

    def test_no_lots(self):
        self.assertEqual(fewest_meeting((), NEVER), ((), None))
        self.assertEqual(fewest_meeting([], 1), ((), None))
        self.assertIs(is_fewest_meeting((), (), None), True)
        self.assertIs(is_fewest_meeting((), (), (0, ())), False)
        self.assertIs(is_fewest_meeting((), (5,), None), False)
        self.assertIs(is_fewest_meeting((), (5,), (0, ())), False)

    def test_an_empty_lot(self):
        for lots in (((),), ((1,), ()), [[], [1], []], [[1, 2], [3], []]):
            self.assertIsNone(fewest_meeting(lots, NEVER))
            self.assertIsNone(fewest_meeting(lots, 1))
            self.assertIs(is_fewest_meeting(lots, (), None), False)
            self.assertIs(is_fewest_meeting(lots, (1,), (0, ())), False)

    def test_most(self):
        for lots in ((), ((),), ((1,),), [[1, 2], [3]], [[1], []]):
            with self.assertRaises(TooMany) as caught:
                fewest_meeting(lots, 0)
            self.assertEqual(caught.exception.most, 0)
        for number in range(60):
            lots = some_lots(number)
            told = fewest_meeting(lots, NEVER)
            for most in (1, 3, 10, 30, 100):
                try:
                    self.assertEqual(fewest_meeting(lots, most), told)
                except TooMany as error:
                    self.assertEqual(error.most, most)

    def test_too_many(self):
        lots = [[number, number + 1, number + 2] for number in range(0, 90, 2)]
        with self.assertRaises(TooMany) as caught:
            fewest_meeting(lots, 2)
        self.assertEqual(caught.exception.most, 2)

    def test_deep_things(self):
        for deep in (8, 9, 400, 5000):
            thing = 5
            for _ in range(deep):
                thing = (thing, )
            things, tree = fewest_meeting([[thing], [thing, 7]], NEVER)
            self.assertEqual(len(things), 1)
            self.assertIs(things[0], thing)
            self.assertIs(is_fewest_meeting([[thing]], things, tree), True)
            self.assertIs(is_fewest_meeting([[thing]], ((thing,),), tree), False)
            self.assertIs(is_fewest_meeting([[thing]], thing, tree), False)

    def test_tuples_with_anything(self):
        box = object()
        pool = [("a", False), ("b", True), 3, ("c", (None, False)), (True,), (None,), (b"x",), (1.5, "a"), (), ((),), ((), ()),
                (box,), (frozenset([1]), 2), (float("inf"),), (((True,), None),), 0, 1]
        for number in range(300):
            lots = some_lots(number, pool)
            things, tree = fewest_meeting(lots, NEVER)
            self.assertEqual(len(set(things)), len(things))
            self.assertEqual(len(things), self.fewest_of(lots))
            self.assertTrue(all(set(things) & set(lot) for lot in lots))
            self.assertIs(is_fewest_meeting(lots, things, tree), True)
            self.assertIs(is_fewest_meeting(lots, things[::-1], tree), True)
            self.assertIs(is_fewest_meeting(lots, things + ((None, True),), tree), False)

    def fewest_of(self, lots):
        """How many things meet all lots, of things that can't all be compared."""
        things = list(dict.fromkeys(thing for lot in lots for thing in lot))
        numbers = [[things.index(thing) for thing in lot] for lot in lots]
        return fewest(numbers)

    def test_equal_things_are_one(self):
        # Python says that these are equal, so each lot that has the one has the other.
        for one, other in (((True,), (1,)), ((1,), (True,)), ((0, (False,)), (False, (0,)))):
            things, tree = fewest_meeting([[one, 5], [other, 6]], NEVER)
            self.assertEqual(things, (one,))
            self.assertIs(is_fewest_meeting([[one, 5], [other, 6]], (one,), tree), True)
            self.assertIs(is_fewest_meeting([[one, 5], [other, 6]], (other,), tree), True)
            self.assertIs(is_fewest_meeting([[one]], (other,), (0, ())), False)

    def test_ascending(self):
        things = [(), (0,), (0, 0), (0, 1), (1,), (1, "a"), (1, "b"), ("a",), ("a", ()), ("a", (5,)), ("a", (5, 0)), ("b",)]
        told, _ = fewest_meeting([[thing] for thing in things[::-1]], NEVER)
        self.assertEqual(told, tuple(things))
        comparable = [(2, ("b", -1)), (2, ("b",)), (2, ("a", 7)), (-2, ("z",)), (2, ("b", -1, 0))]
        told, _ = fewest_meeting([[thing] for thing in comparable], NEVER)
        self.assertEqual(told, tuple(sorted(comparable)))

    def test_integers_and_tuples(self):
        things, tree = fewest_meeting([[("a", 1)], [5], [("a", 0), 7], [7]], NEVER)
        self.assertEqual(things, (5, 7, ("a", 1)))
        self.assertIs(is_fewest_meeting([[("a", 1)], [5], [("a", 0), 7], [7]], things, tree), True)

    def test_many_lots_of_one_thing(self):
        lots = [[number] for number in range(1500)]
        things, tree = fewest_meeting(lots, NEVER)
        self.assertEqual(things, tuple(range(1500)))
        self.assertIs(is_fewest_meeting(lots, things, tree), True)
        self.assertIs(is_fewest_meeting(lots, things[1:], tree), False)


class JudgeTest(unittest.TestCase):
    def test_things(self):
        for number in range(1, 200):
            lots = some_lots(number)
            things, tree = fewest_meeting(lots, NEVER)
            for order in itertools.islice(itertools.permutations(things), 6):
                self.assertIs(is_fewest_meeting(lots, order, tree), True)
            for some in itertools.combinations(range(8), len(things)):
                so = all(set(some) & set(lot) for lot in lots)
                self.assertIs(is_fewest_meeting(lots, some, tree), so)
            for some in (things[1:], things + (things[:1] or (0,)), things + (9,), list(things), set(things),
                         dict.fromkeys(things), None, 5, "things", iter(things), object()):
                if some != things:
                    self.assertIs(is_fewest_meeting(lots, some, tree), False)

    def test_things_of_any_form(self):
        tree = (0, ())
        self.assertIs(is_fewest_meeting([[1, 0]], (1,), tree), True)
        endless = ()
        for _ in range(200):
            endless = (endless, endless)
        for thing in NO_INTEGERS + [[], {}, ([],), ({},), (1, [2]), (True,), 1.0, 0.0, "1", frozenset(), (1.0,), (1,), endless]:
            self.assertIs(is_fewest_meeting([[1, 0]], (thing,), tree), False)
            self.assertIs(is_fewest_meeting([[1, 0], [2]], (1, thing), (1, ((2, tree),))), False)
            self.assertIs(is_fewest_meeting([[1, 0], [2]], (1, 2), (1, ((thing, tree),))), False)
            self.assertIs(is_fewest_meeting([[1, 0], [2]], (1, 2), (1, ((2, tree), (thing, tree)))), False)
            self.assertIs(is_fewest_meeting([[1, 0], [2]], (1, 2), (1, (thing,))), False)

    def test_truth_values(self):
        leaf = (0, ())
        self.assertIs(is_fewest_meeting([[(True,)]], ((True,),), leaf), True)
        self.assertIs(is_fewest_meeting([[("c", (None, False))]], (("c", (None, False)),), leaf), True)
        for lots, thing in (([[(True,)]], (False,)), ([[(True,)]], True), ([[(True,)]], ([True],)), ([[(True,)]], (1,)),
                            ([[1]], True), ([[0]], False), ([[True]], True), ([[("c", (None, False))]], ("c", (None, 0))),
                            ([[("c", (None, False))]], ("c", (False, None))), ([[("c", (None, False))]], ("c", [None, False])),
                            ([[("c", (None, False))]], ("c", None, False))):
            self.assertIs(is_fewest_meeting(lots, (thing,), leaf), False)

    def test_tuples_of_any_form(self):
        point = POINTS[0]
        self.assertIs(is_fewest_meeting([[point]], (point,), (0, ())), True)
        deep = ()
        for _ in range(100000):
            deep = (deep,)
        for thing in (list(point), ("lives", ["ann", "rome"], 5), ("lives", ("ann", "rome"), 5.0), ("lives", [], 5),
                      ("lives", "ann", "rome", 5), (("lives", "ann"), "rome", 5), ("lives", ("ann", "rome", 5)),
                      ("lives", ("ann", "rome"), True), ("lives", {"ann"}, 5), ("lives", ("ann", b"rome"), 5),
                      ("lives", ("ann", "rome"), {}), ("lives", ("ann", "rome")), deep, (deep, [])):
            self.assertIs(is_fewest_meeting([[point]], (thing,), (0, ())), False)
        self.assertIs(is_fewest_meeting([[("a", 1)]], (("a", True),), (0, ())), False)
        self.assertIs(is_fewest_meeting([[("a", 1)], [2]], (("a", 1), 2), (0, ((("a", True), (1, ())),))), False)

    def test_branches_in_any_order_and_twice(self):
        lots = [[1, 2, 3], [4, 5, 6]]
        leaf = (1, ())
        branches = [(1, leaf), (2, leaf), (3, leaf)]
        for order in itertools.permutations(branches):
            self.assertIs(is_fewest_meeting(lots, (1, 4), (0, order)), True)
            self.assertIs(is_fewest_meeting(lots, (1, 4), (0, order + order[:1])), True)
            self.assertIs(is_fewest_meeting(lots, (1, 4), (0, order[1:])), False)
            self.assertIs(is_fewest_meeting(lots, (1, 4), (0, order[1:] + order[1:2])), False)
            self.assertIs(is_fewest_meeting(lots, (1, 4), (0, order + ((4, leaf),))), False)
            self.assertIs(is_fewest_meeting(lots, (1, 4), (0, order + ((1, (0, ())),))), False)
        self.assertIs(is_fewest_meeting([[1, 1, 2]], (1,), (0, ())), True)
        self.assertIs(is_fewest_meeting([[1, 1], [2, 2, 2]], (1, 2), (0, ((1, (1, ())),))), True)

    def test_trees_of_any_form(self):
        for number in range(1, 80):
            lots = some_lots(number)
            things, tree = fewest_meeting(lots, NEVER)
            for way in places(tree):
                node = at(tree, way)
                leaf = not node[1]
                for wrong in NO_TREES:
                    if not leaf or wrong != (0, ()) and wrong != (False, ()) and wrong != (0.0, ()):
                        self.assertIs(is_fewest_meeting(lots, things, put_at(tree, way, wrong)), False)
                for wrong in ((len(lots), node[1]), (-1, node[1]), (float(node[0]), node[1]), (node[0], list(node[1])),
                              (node[0], node[1] + ((), )), (node[0], node[1] + (None,)), (*node, ()), list(node)):
                    self.assertIs(is_fewest_meeting(lots, things, put_at(tree, way, wrong)), False)
                for other in range(len(lots)):
                    told = put_at(tree, way, (other, node[1]))
                    self.assertIs(is_fewest_meeting(lots, things, told), is_tree(lots, told, len(things) - 1, set()))

    def test_too_low_or_too_high(self):
        for number in range(1, 80):
            lots = some_lots(number)
            things, tree = fewest_meeting(lots, NEVER)
            self.assertIs(is_fewest_meeting(lots, things, None), not lots)
            if not lots:
                continue
            self.assertIs(is_fewest_meeting(lots, things, (0, tuple((thing, tree) for thing in lots[0]))), False)
            if len(things) > 1:
                self.assertIs(is_fewest_meeting(lots, things, tree[1][0][1]), False)
                self.assertIs(is_fewest_meeting(lots, things, (tree[0], ())), False)

    def test_more_than_the_fewest(self):
        lots = [[1, 2], [1, 3]]
        self.assertIs(is_fewest_meeting(lots, (1,), (0, ())), True)
        self.assertIs(is_fewest_meeting(lots, (2, 3), (0, ((1, (1, ())), (2, (1, ()))))), False)

    def test_deep_trees(self):
        deep = (0, ())
        for _ in range(100000):
            deep = (0, ((1, deep),))
        self.assertIs(is_fewest_meeting([[1], [2]], (1, 2), deep), False)
        self.assertIs(is_fewest_meeting([[1], [2]], (1, 2), (deep, ())), False)

    def test_leaves_true_for_numbers(self):
        self.assertIs(is_fewest_meeting([[5]], (5,), (0, ())), True)
        self.assertIs(is_fewest_meeting([[5]], (5,), (False, ())), False)
        self.assertIs(is_fewest_meeting([[4, 5], [5]], (5,), (True, ())), False)
        self.assertIs(is_fewest_meeting([[4, 5], [5]], (5,), (1, ())), True)


if __name__ == "__main__":
    unittest.main()
