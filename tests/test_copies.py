"""[15]: patches lead from the book at one moment to that at another one; the shortest and cheapest rows of patches."""

import itertools
import unittest

from helpers import LAST, NO_INTEGERS, RELATIONS, dice, some_changes
from twicedated.books import Book, empty_book
from twicedated.copies import Copy, cheapest_way, patch_between, way_to
from twicedated.errors import BadMoment
from twicedated.fewest import fewest_between, is_fewest
from twicedated.histories import History

FACTS = [("pays", ("bob",)), ("lives", ("ann", "rome")), ("pays", ("ann",))]
SET = ("set", "pays", ("ann",), 3, 8)


def some_history(number, many=12):
    """A history of few changes."""
    return History(RELATIONS, some_changes(dice(number), FACTS, number % many))


def all_ways(start, patches, goal):
    """All rows of patches, none twice, by which one comes from a moment to another one."""
    if start == goal:
        yield ()
    for number, patch in enumerate(patches):
        if patch[0] == start:
            for way in all_ways(patch[1], patches[:number] + patches[number + 1:], goal):
                yield (patch, *way)


def sham(one, other, many):
    """A patch with so many changes."""
    return one, other, tuple(SET[:3] + (number, number) for number in range(many))


class PatchTest(unittest.TestCase):
    def test_patches_lead_there(self):
        for number in range(60):
            history = some_history(number)
            for one, other in itertools.product(range(history.last_moment() + 1), repeat=2):
                patch = patch_between(history, one, other)
                ahead, behind = history.book_at(one), history.book_at(other)
                self.assertIsInstance(patch, tuple)
                self.assertEqual(patch[:2], (one, other))
                self.assertIsInstance(patch[2], tuple)
                heights = fewest_between(ahead, behind)[1]
                self.assertIs(is_fewest(ahead, behind, patch[2], heights), True)
                copy = Copy(ahead, one)
                later = copy.patched(patch)
                self.assertIsInstance(later, Copy)
                self.assertEqual((later.book, later.moment), (behind, other))
                self.assertEqual((copy.book, copy.moment), (history.book_at(one), one))

    def test_to_an_earlier_moment(self):
        history = History(RELATIONS, [SET, ("clear", "pays", ("ann",), 0, LAST)])
        self.assertEqual(patch_between(history, 2, 1), (2, 1, (SET,)))
        self.assertEqual(patch_between(history, 2, 0), (2, 0, ()))
        self.assertEqual(patch_between(history, 1, 1), (1, 1, ()))
        self.assertEqual(len(patch_between(history, 1, 0)[2]), 1)

    def test_bad_moments(self):
        history = History(RELATIONS, [SET])
        for moment in [*NO_INTEGERS, -1, 2, 10 ** 20]:
            for one, other in ((moment, 0), (0, moment), (moment, 99)):
                with self.assertRaises(BadMoment) as caught:
                    patch_between(history, one, other)
                self.assertIs(caught.exception.moment, moment)

    def test_patches_of_other_moments(self):
        copy = Copy(empty_book(RELATIONS), 3)
        for one in (0, 2, 4, 99):
            for patch in ((one, 3, ()), (one, 5, (SET,)), (one, 3, (None,))):
                with self.assertRaises(BadMoment) as caught:
                    copy.patched(patch)
                self.assertEqual(caught.exception.moment, one)
        self.assertEqual(copy.patched((3, 3, ())).book, empty_book(RELATIONS))
        self.assertEqual(copy.patched((3, 7, (SET,))).book, Book(RELATIONS, {("pays", ("ann",)): [(3, 8)]}))
        self.assertEqual(copy.patched((3, 7, [SET])).moment, 7)


class WayTest(unittest.TestCase):
    def look_at(self, copy, patches, goal):
        handed = list(patches)
        ways = list(all_ways(copy.moment, tuple(patches), goal))
        short, cheap = way_to(copy, patches, goal), cheapest_way(copy, patches, goal)
        self.assertEqual(patches, handed)
        self.assertEqual((way_to(copy, tuple(patches), goal), cheapest_way(copy, tuple(patches), goal)), (short, cheap))
        if not ways:
            self.assertIsNone(short)
            self.assertIsNone(cheap)
            return
        self.assertIn(short, ways)
        self.assertEqual(len(short), min(map(len, ways)))
        self.assertIsInstance(cheap, tuple)
        self.assertIn(cheap[1], ways)
        costs = [sum(len(patch[2]) for patch in way) for way in ways]
        self.assertEqual(cheap[0], min(costs))
        self.assertEqual(sum(len(patch[2]) for patch in cheap[1]), cheap[0])

    def test_against_trying_all(self):
        for number in range(400):
            chance = dice(number)
            patches = [sham(chance.randrange(5), chance.randrange(5), chance.choice([0, 0, 1, 2, 5]))
                       for _ in range(chance.randrange(8))]
            copy = Copy(empty_book(RELATIONS), chance.randrange(5))
            for goal in range(6):
                self.look_at(copy, patches, goal)

    def test_there_already(self):
        copy = Copy(empty_book(RELATIONS), 4)
        for patches in ([], [sham(4, 4, 0)], [sham(4, 5, 1), sham(5, 4, 0)]):
            self.assertEqual(way_to(copy, patches, 4), ())
            self.assertEqual(cheapest_way(copy, patches, 4), (0, ()))

    def test_no_way(self):
        copy = Copy(empty_book(RELATIONS), 4)
        for patches in ([], [sham(3, 5, 0)], [sham(5, 4, 0)], [sham(4, 3, 0), sham(3, 4, 0)], [sham(4, 4, 0)]):
            self.assertIsNone(way_to(copy, patches, 5))
            self.assertIsNone(cheapest_way(copy, patches, 5))

    def test_shortest_is_not_cheapest(self):
        copy = Copy(empty_book(RELATIONS), 0)
        straight, first, then = sham(0, 2, 9), sham(0, 1, 2), sham(1, 2, 3)
        for patches in itertools.permutations([straight, first, then, sham(2, 0, 0), sham(1, 1, 0)]):
            self.assertEqual(way_to(copy, patches, 2), (straight,))
            self.assertEqual(cheapest_way(copy, patches, 2), (5, (first, then)))

    def test_ways_of_patches_between(self):
        for number in range(20, 40):
            history, chance = some_history(number, 12), dice(number)
            last = history.last_moment()
            patches = [patch_between(history, chance.randrange(last + 1), chance.randrange(last + 1)) for _ in range(7)]
            for goal in range(last + 1):
                copy = Copy(history.book_at(0), 0)
                self.look_at(copy, patches, goal)
                for way in (way_to(copy, patches, goal), (cheapest_way(copy, patches, goal) or (0, None))[1]):
                    if way is not None:
                        there = copy
                        for patch in way:
                            there = there.patched(patch)
                        self.assertEqual((there.book, there.moment), (history.book_at(goal), goal))

    def test_long_ways(self):
        copy = Copy(empty_book(RELATIONS), 0)
        patches = [sham(number, number + 1, 1) for number in range(3000)]
        self.assertEqual(way_to(copy, patches, 3000), tuple(patches))
        self.assertEqual(cheapest_way(copy, patches[::-1], 3000), (3000, tuple(patches)))


if __name__ == "__main__":
    unittest.main()
