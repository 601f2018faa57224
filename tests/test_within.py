"""[33]: what is so in all legal books, by an own judge and by drawn books."""

import itertools
import unittest

from asking import (NOW, answers_of, any_, day, keeps, known_by, moved, name, renamed, some_points, some_question, some_rules,
                    tight_clause, tight_question, tight_rules, when)
from helpers import LAST, NO_DAYS, NO_NAMES, dice
from judging import LENIENT, STRICT, follows_cases, never_cases, within_cases
from twicedated.askerrors import BadQuestion
from twicedated.errors import TooMany
from twicedated.questions import Clause, Question
from twicedated.touching import Untouched
from twicedated.within import Closed, Found, follows, never, shows_follows, shows_never, shows_within, within

NEVER = 10 ** 9
RELATIONS = {"lives": 2, "pays": 1}
NUMBERS = [[0, 1, 2], [0, 5, LAST], [LAST - 1, LAST], [3, 4, 8]]
P, Q, R, T, U, V = any_("p"), any_("q"), any_("r"), when("t"), when("u"), when("v")
ROME, OSLO = name("rome"), name("oslo")
IN_ROME = Clause((("lives", (P, ROME), NOW),), ())
SOMEWHERE = Clause((("lives", (P, Q), NOW),), ())
ONE_HOME = Clause((("lives", (P, Q), T), ("lives", (P, R), T)), (("unlike", Q, R),))
PAID_ONCE = Clause((("pays", (P,), T), ("pays", (P,), U)), (("less", T, U),))
CLASH = ("clash",)


def some_case(number):
    """Two questions with heads alike long, and rules."""
    chance = dice(number)
    if number % 2:
        one, other = tight_question(chance), tight_question(chance)
        rules = tight_rules(chance)
    else:
        relations, numbers = chance.choice([RELATIONS, {"pays": 1}, {"lives": 2}]), chance.choice(NUMBERS)
        one, other = some_question(chance, relations, numbers), some_question(chance, relations, numbers)
        rules = some_rules(chance, relations, numbers, chance.choice([0, 0, 1, 2]))
    if number % 3 == 0:
        # Somewhat more than the other one, or less, so that there is something to find.
        other = Question(one.head, (one.clauses + other.clauses)[:2] if one.head == other.head else one.clauses,
                         one.unless[:1])
    if len(one.head) != len(other.head):
        one, other = [Question((), question.clauses, question.unless) for question in (one, other)]
    return one, other, rules


def some_numbers(rules, *questions):
    """Days near those that are told."""
    clauses = [*rules, *[clause for question in questions for clause in question.clauses + question.unless]]
    told = [term[1] for clause in clauses for atom in clause.atoms for term in atom[2:] if term[0] == "day"]
    return sorted({max(0, min(LAST, number + more)) for number in [*told, 3] for more in (-1, 0, 1, 2)})


def is_found(found, rules):
    """Whether the points of a Found keep rules, by an own matching."""
    return keeps(found.points, rules)


def depth(tree):
    """How many comparisons stand above each other in a tree."""
    return 0 if isinstance(tree[0], str) else 1 + max(depth(smaller) for smaller in tree[2])


class WithinTest(unittest.TestCase):
    def look_at(self, one, other, rules):
        """Whether one question is within another one; what is told is looked at by own judges."""
        told = within(one, other, rules, NEVER)
        self.assertEqual(within(one, other, rules, NEVER), told)
        self.assertIs(shows_within(one, other, rules, told), True)
        if told:
            self.assertIsInstance(told, Closed)
            self.assertTrue(STRICT.are_trees(within_cases(one, other, rules), told.trees))
        else:
            self.assertIsInstance(told, Found)
            self.assertTrue(is_found(told, rules))
            self.assertIn(told.names, answers_of(one, known_by(told.points), told.now))
            self.assertNotIn(told.names, answers_of(other, known_by(told.points), told.now))
        return told

    def test_by_own_judges(self):
        sizes = {}
        for number in range(700):
            told = self.look_at(*some_case(number))
            key = max(depth(tree) for tree in told.trees) if told else "found"
            sizes[key] = sizes.get(key, 0) + 1
        self.assertTrue(all(sizes.get(key, 0) > 5 for key in ("found", 0, 1)), sizes)
        self.assertGreater(max(key for key in sizes if key != "found"), 1)

    def test_closed_in_drawn_books(self):
        looked = 0
        for number in range(600):
            one, other, rules = some_case(number)
            if not within(one, other, rules, NEVER):
                continue
            chance = dice(number)
            numbers = some_numbers(rules, one, other)
            for _ in range(4):
                points = some_points(chance, rules, RELATIONS, numbers, 7)
                for now in numbers:
                    answers = answers_of(one, known_by(points), now)
                    looked += bool(answers)
                    self.assertLessEqual(set(answers), set(answers_of(other, known_by(points), now)))
        self.assertGreater(looked, 200)

    def test_more_and_less(self):
        rome, anywhere = Question((P,), (IN_ROME,), ()), Question((P,), (SOMEWHERE,), ())
        self.assertTrue(self.look_at(rome, anywhere, ()))
        self.assertFalse(self.look_at(anywhere, rome, ()))
        late = Question((P,), (Clause((("lives", (P, ROME), T),), (("less", T, NOW),)),), ())
        self.assertFalse(self.look_at(rome, late, ()))
        self.assertTrue(self.look_at(late, Question((P,), (Clause((("lives", (P, Q), T),), (("most", T, NOW),)),), ()), ()))
        # Two days less, one day less.
        steps = [Question((), (Clause((("pays", (P,), T), ("pays", (Q,), U)), tests),), ())
                 for tests in ((("less", T, U), ("less", U, NOW)), (("less", T, NOW), ("less", U, NOW)))]
        self.assertTrue(self.look_at(steps[0], steps[1], ()))
        self.assertFalse(self.look_at(steps[1], steps[0], ()))

    def test_heads_of_other_variables(self):
        pairs = Question((P, Q), (Clause((("lives", (P, Q), NOW),), ()),), ())
        turned = Question((Q, P), (Clause((("lives", (Q, P), NOW),), ()),), ())
        crossed = Question((Q, P), (Clause((("lives", (P, Q), NOW),), ()),), ())
        self.assertTrue(self.look_at(pairs, turned, ()))
        self.assertFalse(self.look_at(pairs, crossed, ()))
        alike = Question((P, P), (Clause((("lives", (P, P), NOW),), ()),), ())
        self.assertTrue(self.look_at(alike, pairs, ()))
        self.assertTrue(self.look_at(alike, crossed, ()))
        self.assertFalse(self.look_at(pairs, alike, ()))
        symmetric = Clause((("lives", (P, Q), T),), (("unlike", P, Q),))
        self.assertTrue(self.look_at(pairs, alike, (symmetric,)))

    def test_unless(self):
        rome = Question((P,), (IN_ROME,), ())
        alone = Question((P,), (IN_ROME,), (Clause((("lives", (P, OSLO), NOW),), ()),))
        self.assertTrue(self.look_at(alone, rome, ()))
        self.assertFalse(self.look_at(rome, alone, ()))
        self.assertTrue(self.look_at(rome, alone, (ONE_HOME,)))
        nobody = Question((P,), (IN_ROME,), (SOMEWHERE,))
        self.assertTrue(self.look_at(nobody, alone, ()))
        self.assertFalse(self.look_at(alone, nobody, ()))
        both = Question((P,), (IN_ROME,), (Clause((("lives", (P, OSLO), NOW), ("pays", (P,), T)), ()),))
        self.assertTrue(self.look_at(alone, both, ()))
        self.assertFalse(self.look_at(both, alone, ()))

    def test_told_otherwise(self):
        names = {"lives": "zzz", "pays": "lives", "p": "abcdefgh", "q": "p", "t": "now", "u": "t", "ann": "n0", "rome": "a"}
        for number in range(150):
            one, other, rules = some_case(number)
            told = bool(within(one, other, rules, NEVER))
            self.assertIs(bool(within(*renamed((one, other, rules), names), NEVER)), told)
            chance = dice(number)

            def turned(clauses):
                return tuple(Clause(tuple(chance.sample(clause.atoms, len(clause.atoms))),
                                    tuple(chance.sample(clause.tests, len(clause.tests)))) for clause in clauses[::-1])

            for question in (one, Question(one.head, turned(one.clauses), turned(one.unless))):
                again = Question(other.head, (turned(other.clauses) + other.clauses)[-3:], turned(other.unless))
                again = again if len(other.clauses) < 3 else other
                self.assertIs(bool(within(question, again, turned(rules), NEVER)), told)
            self.assertTrue(within(one, one, rules, NEVER))
            self.assertTrue(within(one, Question(one.head, one.clauses, ()), rules, NEVER))

    def test_days_moved(self):
        for number in range(150):
            chance = dice(number)
            one, other = [some_question(chance, RELATIONS, [500, 501, 505]) for _ in range(2)]
            other = Question(one.head, one.clauses[:1], other.unless[:0])
            rules = some_rules(chance, RELATIONS, [500, 502], chance.choice([0, 1, 2]))
            told = bool(within(one, other, rules, NEVER))
            for days in (-490, 999000):
                self.assertIs(bool(within(moved(one, days), moved(other, days), moved(rules, days), NEVER)), told)

    def test_more_rules(self):
        for number in range(200):
            one, other, rules = some_case(number)
            told = [bool(within(one, other, rules[:many], NEVER)) for many in range(len(rules) + 1)]
            self.assertEqual(told, sorted(told))


class NeverTest(unittest.TestCase):
    def look_at(self, question, rules):
        told = never(question, rules, NEVER)
        self.assertEqual(never(question, rules, NEVER), told)
        self.assertIs(shows_never(question, rules, told), True)
        if told:
            self.assertIsInstance(told, Closed)
            self.assertTrue(STRICT.are_trees(never_cases(question, rules), told.trees))
        else:
            self.assertTrue(is_found(told, rules))
            self.assertIn(told.names, answers_of(question, known_by(told.points), told.now))
        return told

    def test_by_own_judges(self):
        closed = 0
        for number in range(500):
            one, _, rules = some_case(number)
            told = self.look_at(one, rules)
            closed += bool(told)
            if told:
                chance, numbers = dice(number), some_numbers(rules, one)
                for _ in range(2):
                    points = known_by(some_points(chance, rules, RELATIONS, numbers, 6))
                    for now in numbers:
                        self.assertEqual(answers_of(one, points, now), [])
                nothing = Question(one.head, one.clauses, one.clauses)
                self.assertTrue(self.look_at(nothing, ()))
                self.assertTrue(within(one, nothing, rules, NEVER))
        self.assertTrue(20 < closed < 480, closed)

    def test_simple_ones(self):
        for tests, told in (((("less", T, NOW), ("less", NOW, T)), True), ((("less", T, NOW),), False),
                            ((("less", T, day(0)),), True), ((("less", day(LAST), T),), True), ((("most", day(LAST), T),), False),
                            ((("unlike", P, P),), True), ((("same", P, ROME), ("same", P, OSLO)), True)):
            self.assertIs(bool(self.look_at(Question((P,), (Clause((("pays", (P,), T),), tests),), ()), ())), told)
        both = Question((), (Clause((("lives", (P, ROME), NOW), ("lives", (P, OSLO), NOW)), ()),), ())
        self.assertFalse(self.look_at(both, ()))
        self.assertTrue(self.look_at(both, (ONE_HOME,)))
        self.assertTrue(self.look_at(Question((P,), (IN_ROME,), (SOMEWHERE,)), ()))
        self.assertFalse(self.look_at(Question((P,), (IN_ROME, SOMEWHERE), (IN_ROME,)), ()))


class FollowsTest(unittest.TestCase):
    def look_at(self, rule, rules):
        told = follows(rule, rules, NEVER)
        self.assertEqual(follows(rule, rules, NEVER), told)
        self.assertIs(shows_follows(rule, rules, told), True)
        if told:
            self.assertIsInstance(told, Closed)
            self.assertEqual(len(told.trees), 1)
            self.assertTrue(STRICT.are_trees(follows_cases(rule, rules), told.trees))
        else:
            self.assertTrue(is_found(told, rules))
            self.assertFalse(is_found(told, (rule,)))
        return told

    def test_by_own_judges(self):
        closed = 0
        for number in range(700):
            chance = dice(number)
            rules = tight_rules(chance)
            rule = tight_clause(chance, chance.choice([2, 3]), has_now=False)
            if number % 3 == 0:
                rule = Clause(rules[0].atoms[::-1], rules[0].tests)
            told = self.look_at(rule, rules)
            closed += bool(told)
            if told:
                for _ in range(3):
                    points = some_points(chance, rules, {"pays": 1}, [0, 1, 2, 3], 5)
                    self.assertTrue(keeps(points, (rule,)))
                self.assertIs(bool(follows(rule, rules[::-1], NEVER)), True)
        self.assertTrue(100 < closed < 600, closed)

    def test_simple_ones(self):
        self.assertFalse(self.look_at(ONE_HOME, ()))
        self.assertTrue(self.look_at(ONE_HOME, (ONE_HOME,)))
        self.assertTrue(self.look_at(ONE_HOME, (PAID_ONCE, ONE_HOME)))
        self.assertFalse(self.look_at(ONE_HOME, (PAID_ONCE,)))
        mirrored = Clause((("lives", (R, P), U), ("lives", (R, Q), U)), (("unlike", P, Q),))
        self.assertTrue(self.look_at(mirrored, (ONE_HOME,)))
        three = Clause((("pays", (P,), T), ("pays", (P,), U), ("pays", (P,), V)), (("less", T, U), ("less", U, V)))
        self.assertTrue(self.look_at(three, (PAID_ONCE,)))
        self.assertFalse(self.look_at(PAID_ONCE, (three,)))
        near = Clause((("pays", (P,), T), ("pays", (P,), U)), (("less", T, U), ("most", U, day(1))))
        self.assertTrue(self.look_at(near, (PAID_ONCE,)))
        self.assertFalse(self.look_at(three, (near,)))
        unlike = Clause((("pays", (P,), T), ("pays", (P,), U)), (("unlike", T, U),))
        self.assertTrue(self.look_at(unlike, (PAID_ONCE,)))
        self.assertTrue(self.look_at(PAID_ONCE, (unlike,)))
        never_so = Clause((("pays", (P,), T),), (("less", T, T),))
        self.assertTrue(self.look_at(never_so, ()))
        # Three unlike days of two.
        early = Clause((("pays", (P,), T),), (("less", day(1), T),))
        apart = Clause((("pays", (P,), T), ("pays", (P,), U), ("pays", (P,), V)),
                       (("unlike", T, U), ("unlike", U, V), ("unlike", T, V)))
        self.assertTrue(self.look_at(apart, (early,)))
        self.assertFalse(self.look_at(apart, (Clause((("pays", (P,), T),), (("less", day(2), T),)),)))


class JudgeTest(unittest.TestCase):
    """Things that anybody made."""

    rome, anywhere = Question((P,), (IN_ROME,), ()), Question((P,), (SOMEWHERE,), ())

    def judges(self):
        """Pairs of a judge and a right thing."""
        nobody = Question((P,), (IN_ROME,), (SOMEWHERE,))
        home = ("lives", ("ann", "oslo"), 7)
        homes = (home, ("lives", ("ann", "rome"), 7))
        return [(lambda told: shows_within(self.rome, self.anywhere, (), told), Closed((("known", 0, (0,)),))),
                (lambda told: shows_never(nobody, (), told), Closed((("undone", 0, (0,)),))),
                (lambda told: shows_follows(ONE_HOME, (ONE_HOME,), told), Closed((("barred", 0, (0, 1)),))),
                (lambda told: shows_within(self.anywhere, self.rome, (), told), Found((home,), 7, ("ann",))),
                (lambda told: shows_never(self.anywhere, (), told), Found((home,), 7, ("ann",))),
                (lambda told: shows_follows(ONE_HOME, (), told), Found(homes, 7, ("ann",)))]

    def test_any_form(self):
        for place, (shows, right) in enumerate(self.judges()):
            self.assertIs(shows(right), True)
            for other, (_, thing) in enumerate(self.judges()):
                # Two of them ask for the same Found; and what a rule is broken by has any day and names.
                if other != place and {other, place} != {3, 4} and (place, other) not in ((4, 5), (3, 5)):
                    self.assertIs(shows(thing), False, (place, other))
            for thing in (None, 5, True, "Closed", (), (CLASH,), (right,), [right], {}, object(), Closed, Found, Untouched((CLASH,)),
                          Closed(None), Closed(5), Closed([]), Closed((None,)), Closed(((),)), Closed(CLASH), Closed(((CLASH,),)),
                          Closed({}), Closed(object()), Found(None, None, None), Found(5, 7, ("ann",)), Found((None,), 7, ("ann",)),
                          Found((("lives", ("ann",), 7),), 7, ("ann",)), Found(((),), 7, ("ann",)), Found({}, 7, ("ann",))):
                self.assertIs(shows(thing), False, thing)
            if isinstance(right, Closed):
                for trees in (right.trees * 2, (), list(right.trees), (CLASH,), (list(right.trees[0]),)):
                    self.assertIs(shows(Closed(trees)), False)

    def test_found_of_any_form(self):
        home = ("lives", ("ann", "oslo"), 7)
        for shows in (lambda told: shows_within(self.anywhere, self.rome, (), told), lambda told: shows_never(self.anywhere, (), told)):
            self.assertIs(shows(Found((home, home), 7, ("ann",))), True)
            self.assertIs(shows(Found((home, ("foo", ("a",), 0), ("foo", ("b",), 0)), 7, ("ann",))), True)
            self.assertIs(shows(Found((home, ("foo", ("a",), 0), ("foo", ("b", "a"), 0)), 7, ("ann",))), False)
            for thing in [None, 5, (), home[:2], [*home], (*home, 1), ("lives", ["ann", "oslo"], 7)] + [
                    ("lives", ("ann", "oslo"), day) for day in NO_DAYS] + [("lives", ("ann", word), 7) for word in NO_NAMES]:
                self.assertIs(shows(Found((home, thing), 7, ("ann",))), False, thing)
                self.assertIs(shows(Found((thing,), 7, ("ann",))), False, thing)
            for now in [*NO_DAYS, 6, 8, 0]:
                self.assertIs(shows(Found((home,), now, ("ann",))), False)
            for names in [(), ("bob",), ["ann"], "ann", ("ann", "oslo"), None, {"ann": 1}, object(), ((),)]:
                self.assertIs(shows(Found((home,), 7, names)), False)
            self.assertIs(shows(Found([home], 7, ("ann",))), False)
            self.assertIs(shows(Found((), 7, ("ann",))), False)

    def test_found_by_rules(self):
        points = (("lives", ("ann", "oslo"), 7), ("lives", ("bob", "rome"), 7), ("lives", ("bob", "oslo"), 7))
        told = Found(points, 7, ("ann",))
        self.assertIs(shows_within(self.anywhere, self.rome, (), told), True)
        self.assertIs(shows_within(self.anywhere, self.rome, (PAID_ONCE,), told), True)
        self.assertIs(shows_within(self.anywhere, self.rome, (ONE_HOME,), told), False)
        self.assertIs(shows_within(self.anywhere, self.anywhere, (), told), False)
        self.assertIs(shows_never(self.anywhere, (), told), True)
        self.assertIs(shows_never(self.anywhere, (PAID_ONCE, ONE_HOME), told), False)
        self.assertIs(shows_follows(ONE_HOME, (PAID_ONCE,), told), True)
        self.assertIs(shows_follows(ONE_HOME, (ONE_HOME,), told), False)
        self.assertIs(shows_follows(PAID_ONCE, (), told), False)

    def test_a_broken_rule_has_any_day_and_names(self):
        points = (("pays", ("ann",), 3), ("pays", ("ann",), 4))
        for now, names in itertools.product([*NO_DAYS, 0, 5], [None, 5, (), ("ann",), [], object()]):
            self.assertIs(shows_follows(PAID_ONCE, (), Found(points, now, names)), True)
        self.assertIs(shows_follows(PAID_ONCE, (), Found(points[:1], 0, ())), False)

    def test_bars_of_the_cases(self):
        # A question with an unless, within one with two.
        unless = Clause((("lives", (P, OSLO), NOW),), ())
        one = Question((P,), (IN_ROME,), (unless,))
        other = Question((P,), (IN_ROME,), (unless, Clause((("pays", (P,), NOW),), ())))
        payless = Clause((("pays", (P,), T),), ())
        right = within(one, other, (payless,), NEVER).trees
        self.assertEqual(right, (("known", 0, (0,)), ("undone", 0, (1,)), ("barred", 0, (1,))))
        for place, leaf, told in ((0, CLASH, False), (0, ("undone", 0, (0,)), False), (0, ("known", 0, (1,)), False),
                                  (1, ("known", 0, (0,)), False), (1, ("barred", 0, (1,)), False), (2, ("undone", 0, (1,)), False),
                                  (2, ("barred", 0, (0,)), False), (2, ("known", 0, (0,)), False), (1, ("undone", 0, (0,)), False)):
            trees = right[:place] + (leaf,) + right[place + 1:]
            self.assertIs(shows_within(one, other, (payless,), Closed(trees)), told)
        self.assertIs(shows_never(one, (payless,), Closed((("known", 0, (0,)),))), False)
        self.assertIs(shows_follows(payless, (payless,), Closed((("undone", 0, (0,)),))), False)

    def test_trees_with_more_comparisons(self):
        for number in range(200):
            one, other, rules = some_case(number)
            told = within(one, other, rules, NEVER)
            if told:
                tree = (name("zoe"), any_("w"), told.trees[:1] * 2)
                trees = ((when("w-q"), NOW, (tree, told.trees[0], tree)),) + told.trees[1:]
                self.assertIs(shows_within(one, other, rules, Closed(trees)), True)
                self.assertTrue(LENIENT.are_trees(within_cases(one, other, rules), trees))

    def test_days_that_are_only_unlike(self):
        # Of three unlike days up to NOW one is day 2 or behind it, in whatever order they are.
        hours = (T, U, V)
        tests = tuple(("unlike", one, other) for one, other in itertools.combinations(hours, 2))
        thrice = Question((P,), (Clause(tuple(("pays", (P,), hour) for hour in hours), tests + tuple(("most", hour, NOW) for hour in hours)),), ())
        for number, told in ((1, True), (2, False)):
            late = Question((P,), (Clause((("pays", (P,), T),), (("less", day(number), NOW),)),), ())
            found = within(thrice, late, (), NEVER)
            self.assertIs(bool(found), told)
            self.assertIs(shows_within(thrice, late, (), found), True)
            self.assertTrue(not told or STRICT.are_trees(within_cases(thrice, late, ()), found.trees))
            # Whoever sees at once what follows needn't compare them.
            trees = (("known", 0, (0,)),)
            self.assertIs(LENIENT.are_trees(within_cases(thrice, late, ()), trees), told)
            self.assertIs(shows_within(thrice, late, (), Closed(trees)), told)

    def test_attributes(self):
        found, closed = Found((1,), 2, (3,)), Closed((CLASH,))
        self.assertEqual((found.points, found.now, found.names, closed.trees), ((1,), 2, (3,), (CLASH,)))
        self.assertIs(bool(found), False)
        self.assertIs(bool(closed), True)
        self.assertEqual((found, closed), (Found((1,), 2, (3,)), Closed((CLASH,))))
        for other in (Found((), 2, (3,)), Found((1,), 0, (3,)), Found((1,), 2, ()), closed, None, (1,), False, object()):
            self.assertIs(found == other, False)
            self.assertIs(found != other, True)
        for other in (Closed(()), found, Untouched((CLASH,)), (CLASH,), None, True, object()):
            self.assertIs(closed == other, False)
            self.assertIs(closed != other, True)


class WrongTest(unittest.TestCase):
    rome, anywhere = Question((P,), (IN_ROME,), ()), Question((P,), (SOMEWHERE,), ())
    paying = Question((P,), (Clause((("pays", (P,), NOW),), ()),), ())
    WRONG_RULES = [None, 5, "", [ONE_HOME], ONE_HOME, (ONE_HOME,) * 4, (None,), (ONE_HOME, rome), (IN_ROME,), {}, (ONE_HOME, ()),
                   (Clause((("lives", (P, Q), T),), (("less", T, NOW),)),), object()]

    def assert_faults(self, word, *asked):
        for one in asked:
            with self.assertRaises(BadQuestion) as caught:
                one()
            self.assertEqual(caught.exception.word, word)

    def all_asked(self, one, other, rules):
        """All that can be asked with these."""
        for most in (0, 1, NEVER):
            yield lambda: within(one, other, rules, most)
            yield lambda: never(one, rules, most)
        for told in (None, Closed(()), Found((), 0, ())):
            yield lambda: shows_within(one, other, rules, told)
            yield lambda: shows_never(one, rules, told)

    def test_rules(self):
        for rules in self.WRONG_RULES:
            self.assert_faults("rules", *self.all_asked(self.rome, self.anywhere, rules))
            for most in (0, NEVER):
                self.assert_faults("rules", lambda: follows(PAID_ONCE, rules, most))
            self.assert_faults("rules", lambda: shows_follows(PAID_ONCE, rules, None))

    def test_one_rule(self):
        for rule in (None, 5, (), (ONE_HOME,), self.rome, IN_ROME, Clause((("lives", (P, Q), T),), (("less", T, NOW),)), object()):
            for rules in ((), (ONE_HOME,), None):
                for most in (0, NEVER):
                    self.assert_faults("rules", lambda: follows(rule, rules, most))
                self.assert_faults("rules", lambda: shows_follows(rule, rules, Closed(())))

    def test_heads(self):
        for one, other in itertools.permutations([Question((P,) * many, (IN_ROME,), ()) for many in range(5)], 2):
            for most in (0, NEVER):
                self.assert_faults("head", lambda: within(one, other, (), most))
            self.assert_faults("head", lambda: shows_within(one, other, (), Closed(())))
        # Heads that aren't alike long, and relations that aren't of one mind.
        self.assert_faults("head", lambda: within(Question((), (IN_ROME,), ()), Question((P,), (Clause((("lives", (P,), T),), ()),), ()),
                                                  (), NEVER))

    def test_of_one_mind(self):
        short = Clause((("lives", (P,), T),), ())
        wrong = Question((P,), (short,), ())
        barring = Question((P,), (Clause((("pays", (P,), NOW),), ()),), (short,))
        self.assert_faults("relation", *self.all_asked(self.rome, self.anywhere, (short,)))
        self.assert_faults("relation", *self.all_asked(self.paying, self.paying, (short, ONE_HOME)))
        self.assert_faults("relation", *self.all_asked(barring, self.paying, (ONE_HOME,)))
        for one, other in itertools.permutations((self.rome, wrong, barring), 2):
            if self.rome in (one, other):
                self.assert_faults("relation", lambda: within(one, other, (), NEVER), lambda: within(one, other, (), 0),
                                   lambda: shows_within(one, other, (), Closed(())))
        for most in (0, NEVER):
            self.assert_faults("relation", lambda: follows(short, (ONE_HOME,), most), lambda: follows(ONE_HOME, (PAID_ONCE, short), most))
        self.assert_faults("relation", lambda: shows_follows(short, (ONE_HOME,), None))

    def test_most(self):
        for number in range(80):
            one, other, rules = some_case(number)
            rule = tight_clause(dice(number), 2, has_now=False)
            for asked in (lambda most: within(one, other, rules, most), lambda most: never(one, rules, most),
                          lambda most: follows(rule, rules, most)):
                with self.assertRaises(TooMany) as caught:
                    asked(0)
                self.assertEqual(caught.exception.most, 0)
                told = asked(NEVER)
                for most in (1, 2, 5, 50):
                    try:
                        self.assertEqual(asked(most), told)
                    except TooMany as error:
                        self.assertEqual(error.most, most)


if __name__ == "__main__":
    unittest.main()
