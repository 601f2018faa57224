"""[28] to [32]: which kinds of correction can change the answers of a question, by an own judge and by drawn books."""

import itertools
import unittest

from asking import (NOW, answers_of, any_, day, keeps, known_by, moved, name, renamed, some_kind, some_points, some_question,
                    some_rules, tight_question, tight_rules, when)
from helpers import LAST, NO_DAYS, NO_NAMES, dice
from judging import LENIENT, STRICT, touching_cases
from twicedated.askerrors import BadQuestion
from twicedated.errors import TooMany
from twicedated.questions import Clause, Question
from twicedated.touching import Touched, Untouched, touching

NEVER = 10 ** 9
RELATIONS = {"lives": 2, "pays": 1}
NUMBERS = [[0, 1, 2], [0, 5, LAST], [LAST - 1, LAST], [3, 4, 8]]
P, Q, R, W, T, U = any_("p"), any_("q"), any_("r"), any_("w"), when("t"), when("u")
ROME, OSLO, ANN = name("rome"), name("oslo"), name("ann")
HERE = Question((P,), (Clause((("lives", (P, ROME), NOW),), ()),), ())
MOVED = Question((P,), (Clause((("lives", (P, W), NOW), ("lives", (P, ROME), T)), (("less", T, NOW),)),), ())
ALONE = Question((P,), (Clause((("lives", (P, ROME), NOW),), ()),), (Clause((("lives", (P, OSLO), NOW),), ()),))
ONE_HOME = Clause((("lives", (P, Q), T), ("lives", (P, R), T)), (("unlike", Q, R),))
PAYS = Clause((("pays", (P,), NOW),), ())
ALL = (0, LAST)


def some_case(number):
    """A question, rules and a kind."""
    chance = dice(number)
    if number % 2:
        kind = ("pays", (chance.choice([None, None, "ann"]),), 0, chance.choice([0, 1, 2, LAST]))
        return tight_question(chance), tight_rules(chance), kind
    relations = chance.choice([RELATIONS, {"lives": 2}, {"pays": 1}])
    numbers = chance.choice(NUMBERS)
    question = some_question(chance, relations, numbers)
    return question, some_rules(chance, relations, numbers, chance.choice([0, 0, 1, 2, 3])), some_kind(chance, RELATIONS, numbers)


def is_of_kind(kind, point):
    """Whether a kind has a point."""
    relation, names, first, last = kind
    return (point[0] == relation and len(point[1]) == len(names) and first <= point[2] <= last
            and all(here in (None, there) for here, there in zip(names, point[1])))


def is_shown(found, question, rules, kind):
    """Whether a Touched is so, by an own matching."""
    behind = [*found.points, found.point]
    if found.point in found.points or not is_of_kind(kind, found.point) or not keeps(behind, rules):
        return False
    told = [found.names in answers_of(question, known_by(points), found.now) for points in (behind, found.points)]
    return told == ([True, False] if found.is_gain else [False, True])


def most_points(question):
    """How many points a small book has at most, with the one that is set."""
    return max(len(clause.atoms) for clause in question.clauses) + max([len(one.atoms) for one in question.unless], default=0)


def leaves(tree):
    """How many leaves a tree has."""
    return 1 if isinstance(tree[0], str) else sum(leaves(smaller) for smaller in tree[2])


class TouchingTest(unittest.TestCase):
    def look_at(self, question, rules, kind):
        """Whether a kind touches a question; what is told is looked at by own judges."""
        found = touching(question, rules, kind, NEVER)
        self.assertEqual(touching(question, rules, kind, NEVER), found)
        self.assertIs(found.shows(question, rules, kind), True)
        if isinstance(found, Touched):
            self.assertTrue(is_shown(found, question, rules, kind))
            self.assertLess(len(found.points), most_points(question))
            self.assertIs(bool(found), True)
        else:
            self.assertIsInstance(found, Untouched)
            self.assertIs(bool(found), False)
            self.assertTrue(STRICT.are_trees(touching_cases(question, rules, kind), found.trees))
        return found

    def test_of_the_document(self):
        self.assertIs(bool(self.look_at(MOVED, (), ("lives", (None, "rome"), 0, 9))), True)
        self.assertIs(bool(self.look_at(MOVED, (), ("lives", (None, "oslo"), 0, 0))), False)
        self.assertIs(bool(self.look_at(MOVED, (), ("lives", (None, "oslo"), 0, 1))), True)
        self.assertIs(bool(self.look_at(MOVED, (), ("lives", (None, "rome"), LAST, LAST))), True)
        self.assertIs(bool(self.look_at(MOVED, (), ("pays", ("ann",), *ALL))), False)

    def test_by_own_judges(self):
        sizes = {}
        for number in range(1200):
            found = self.look_at(*some_case(number))
            key = "touched" if found else max([leaves(tree) for tree in found.trees], default=0)
            sizes[key] = sizes.get(key, 0) + 1
        self.assertTrue(all(sizes.get(key, 0) > 5 for key in ("touched", 0, 1, 3, 5)), sizes)
        self.assertGreater(max(key for key in sizes if key != "touched"), 6)

    def test_never_in_drawn_books(self):
        looked = 0
        for number in range(700):
            question, rules, kind = some_case(number)
            if touching(question, rules, kind, NEVER):
                continue
            chance = dice(number)
            numbers = [0, 1, 2, 3, 4, 5] if kind[2] < 10 else [LAST - 2, LAST - 1, LAST]
            for _ in range(4):
                points = some_points(chance, rules, RELATIONS, numbers, 7)
                names = tuple(told or chance.choice(["ann", "bob", "rome"]) for told in kind[1])
                first, last = sorted(chance.choice(numbers) for _ in range(2))
                days = [number for number in range(max(first, kind[2]), min(last, kind[3]) + 1)]
                more = sorted({*points, *[(kind[0], names, number) for number in days]})
                less = [point for point in points if point not in more or point[:2] != (kind[0], names) or point[2] not in days]
                for behind in (more, less):
                    if keeps(behind, rules):
                        looked += behind != sorted(points)
                        for number in numbers:
                            self.assertEqual(answers_of(question, known_by(behind), number),
                                             answers_of(question, known_by(points), number))
        self.assertGreater(looked, 200)

    def test_no_rules_and_rules(self):
        kind = ("lives", (None, "oslo"), *ALL)
        found = self.look_at(ALONE, (), kind)
        self.assertIs(found.is_gain, False)
        self.assertIs(bool(self.look_at(ALONE, (ONE_HOME,), kind)), False)
        self.assertIs(bool(self.look_at(ALONE, (ONE_HOME,), ("lives", (None, "rome"), *ALL))), True)
        nobody = Clause((("lives", (P, Q), T),), ())
        self.assertIs(bool(self.look_at(ALONE, (nobody,), ("lives", (None, None), *ALL))), False)
        early = Clause((("lives", (P, Q), T),), (("less", T, day(10)),))
        self.assertIs(bool(self.look_at(ALONE, (early,), ("lives", (None, None), 0, 9))), False)
        self.assertIs(bool(self.look_at(ALONE, (early,), ("lives", (None, None), 0, 10))), True)

    def test_three_atoms(self):
        days = [when(f"t{number}") for number in range(3)]
        atoms = tuple(("pays", (P,), hour) for hour in days)
        rising = (("less", days[0], days[1]), ("less", days[1], days[2]))
        thrice = Question((P,), (Clause(atoms, rising),), ())
        for first, last, told in ((0, 0, True), (LAST, LAST, True), (5, 9, True)):
            self.assertIs(bool(self.look_at(thrice, (), ("pays", (None,), first, last))), told)
        for tests, first, last, told in (((("most", days[2], day(1)),), 0, LAST, False), ((("most", days[2], day(2)),), 0, LAST, True),
                                         ((("most", days[2], day(2)),), 3, LAST, False),
                                         ((("less", day(LAST - 2), days[0]),), 0, LAST, False),
                                         ((("most", day(LAST - 2), days[0]),), 0, LAST, True),
                                         ((("most", day(LAST - 2), days[0]),), 0, LAST - 3, False),
                                         ((("less", days[2], NOW), ("most", NOW, day(2))), 0, LAST, False),
                                         ((("less", days[2], NOW), ("most", NOW, day(3))), 0, 2, True)):
            question = Question((P,), (Clause(atoms, rising + tests),), ())
            self.assertIs(bool(self.look_at(question, (), ("pays", (None,), first, last))), told, (tests, first, last))

    def test_unlike_days_without_room(self):
        days = [when(f"t{number}") for number in range(3)]
        atoms = tuple(("pays", (P,), hour) for hour in days)
        unlike = tuple(("unlike", one, other) for one, other in itertools.combinations(days, 2))
        for bound, told in ((1, False), (2, True)):
            tests = unlike + tuple(("most", hour, day(bound)) for hour in days)
            self.assertIs(bool(self.look_at(Question((P,), (Clause(atoms, tests),), ()), (), ("pays", (None,), *ALL))), told)
            tests = unlike + tuple(("most", day(LAST - bound), hour) for hour in days)
            self.assertIs(bool(self.look_at(Question((P,), (Clause(atoms, tests),), ()), (), ("pays", (None,), *ALL))), told)

    def test_day_0_and_the_last_one(self):
        for word, one, other, told in (("less", T, NOW, True), ("less", NOW, T, False), ("most", NOW, T, True)):
            question = Question((P,), (Clause((("pays", (P,), T),), ((word, one, other),)),), ())
            self.assertIs(bool(self.look_at(question, (), ("pays", (None,), 0, 0))), told)
        for word, one, other, told in (("less", T, NOW, False), ("less", NOW, T, True), ("most", T, NOW, True)):
            question = Question((P,), (Clause((("pays", (P,), T),), ((word, one, other),)),), ())
            self.assertIs(bool(self.look_at(question, (), ("pays", ("ann",), LAST, LAST))), told)

    def test_any_name_at_some_places(self):
        both = Question((), (Clause((("lives", (P, P), NOW),), (("unlike", P, ANN),)),), ())
        for names, told in (((None, None), True), ((None, "ann"), False), (("ann", None), False), (("bob", None), True),
                            (("bob", "ann"), False), (("bob", "bob"), True), (("ann", "ann"), False)):
            self.assertIs(bool(self.look_at(both, (), ("lives", names, *ALL))), told)
        # The variables of what is set have their places as names, and other terms may stand between.
        trees = touching(both, (), ("lives", ("ann", None), *ALL), NEVER).trees
        self.assertIs(Untouched(((any_("x-1"), ANN, (("clash",),) * 2),)).shows(both, (), ("lives", ("ann", None), *ALL)), True)
        self.assertEqual(trees, (("clash",),))

    def test_facts_of_four_names(self):
        terms = (P, Q, R, W)
        question = Question(terms, (Clause((("owes", terms, NOW),), (("unlike", P, W),)),), ())
        self.assertIs(bool(self.look_at(question, (), ("owes", (None, "a", None, "b"), *ALL))), True)
        self.assertIs(bool(self.look_at(question, (), ("owes", ("b", None, None, "b"), *ALL))), False)
        self.assertIs(bool(self.look_at(question, (), ("owes", ("a", "a", "a", "b"), 0, 0))), True)

    def test_lots_of_several_atoms(self):
        kind = ("lives", (None, None), *ALL)
        pair = Question((), (Clause((("lives", (P, Q), T), ("lives", (Q, P), U)), (("same", T, U),)),), ())
        self.assertEqual(len(touching_cases(pair, (), kind)), 3)
        self.assertIs(bool(self.look_at(pair, (), kind)), True)
        # Only by one point that is both atoms at once something is gained here.
        rule = Clause((("lives", (P, Q), T), ("lives", (R, W), U)), (("unlike", P, R),))
        found = self.look_at(pair, (rule,), kind)
        self.assertEqual((found.points, found.point[1][0]), ((), found.point[1][1]))
        # A third atom is another relation's.
        three = Question((), (Clause((("pays", (P,), T), ("lives", (P, Q), T), ("lives", (Q, P), T)), ()),), ())
        self.assertEqual(len(touching_cases(three, (), kind)), 3)
        self.assertIs(bool(self.look_at(three, (Clause((("pays", (P,), T),), ()),), kind)), False)

    def test_heads(self):
        for head in ((), (P,), (P, P), (P, Q), (Q, P, Q, P)):
            clause = Clause((("lives", (P, Q), NOW),), ())
            kind = ("lives", (None, "rome"), 3, 3)
            found = self.look_at(Question(head, (clause,), ()), (), kind)
            self.assertEqual(len(found.names), len(head))
            self.assertIs(bool(self.look_at(Question(head, (clause, clause), (clause,)), (), kind)), False)
            self.assertIs(bool(self.look_at(Question(head, (clause,), (Clause((("lives", (P, Q), T),), ()),)), (), kind)), False)

    def test_an_unless_of_another_relation(self):
        question = Question((P,), (Clause((("lives", (P, Q), NOW),), ()),), (PAYS,))
        found = self.look_at(question, (), ("pays", (None,), 7, 7))
        self.assertEqual((found.is_gain, found.now, len(found.points)), (False, 7, 1))
        self.assertIs(bool(self.look_at(question, (Clause((("pays", (P,), T), ("lives", (P, Q), T)), ()),),
                                        ("pays", (None,), 7, 7))), False)

    def test_words_as_names(self):
        # Relations, variables and names may be words that mean something else at other places.
        atom = ("name", (any_("any"), name("day")), when("when"))
        clause = Clause((atom, ("day", (any_("now"),), NOW)), (("less", when("when"), NOW), ("unlike", any_("any"), any_("now"))))
        question = Question((any_("any"), any_("now")), (clause,), ())
        self.assertIs(bool(self.look_at(question, (), ("name", (None, "day"), *ALL))), True)
        self.assertIs(bool(self.look_at(question, (), ("name", (None, "days"), *ALL))), False)
        self.assertIs(bool(self.look_at(question, (), ("day", ("now",), 0, 0))), False)
        # Variables of both sorts may have one name.
        atoms = (("pays", (any_("t"),), T), ("pays", (any_("u"),), U))
        question = Question((), (Clause(atoms, (("same", any_("t"), any_("u")), ("less", T, U))),), ())
        self.assertIs(bool(self.look_at(question, (), ("pays", (None,), 0, 0))), True)
        self.assertIs(bool(self.look_at(question, (Clause(atoms, (("unlike", T, U),)),), ("pays", (None,), *ALL))), False)
        self.assertIs(bool(self.look_at(question, (Clause(atoms, (("unlike", any_("t"), any_("u")),)),), ("pays", (None,), *ALL))), True)
        # A name that is free is none that a rule, a kind or a question tells.
        rule = Clause((("pays", (P,), T),), tuple(("unlike", P, name(f"n{number}")) for number in range(4)))
        found = self.look_at(Question((P,), (PAYS,), ()), (rule,), ("pays", (None,), *ALL))
        self.assertIn(found.names, [(f"n{number}",) for number in range(4)])
        rule = Clause((("pays", (name("n0"),), T),), ())
        self.assertNotEqual(self.look_at(Question((P,), (PAYS,), ()), (rule,), ("pays", (None,), *ALL)).names, ("n0",))


class OtherwiseTest(unittest.TestCase):
    """The same questions, told otherwise."""

    def touches(self, question, rules, kind):
        found = touching(question, rules, kind, NEVER)
        self.assertIs(found.shows(question, rules, kind), True)
        return bool(found)

    def test_other_names(self):
        names = {"lives": "zzz", "pays": "lives", "p": "abcdefgh", "q": "p", "t": "now", "u": "t", "ann": "n0", "rome": "a"}
        for number in range(200):
            case = some_case(number)
            self.assertIs(self.touches(*renamed(case, names)), self.touches(*case))

    def test_days_moved(self):
        for number in range(200):
            chance = dice(number)
            question = some_question(chance, RELATIONS, [500, 501, 505])
            rules = some_rules(chance, RELATIONS, [500, 502], chance.choice([0, 1, 2]))
            kind = some_kind(chance, RELATIONS, [499, 500, 501, 504, 506])
            told = self.touches(question, rules, kind)
            for days in (-490, 1000, 999000):
                other = (*kind[:2], kind[2] + days, kind[3] + days)
                self.assertIs(self.touches(moved(question, days), moved(rules, days), other), told)

    def test_other_orders(self):
        for number in range(200):
            question, rules, kind = some_case(number)
            chance = dice(number)

            def mixed(row):
                return tuple(chance.sample(row, len(row)))

            def turned(clauses):
                return mixed([Clause(mixed(clause.atoms), mixed(clause.tests)) for clause in clauses])

            other = Question(question.head[::-1], turned(question.clauses), turned(question.unless))
            self.assertIs(self.touches(other, turned(rules), kind), self.touches(question, rules, kind))

    def test_parts_told_twice(self):
        for number in range(200):
            question, rules, kind = some_case(number)

            def more(clauses):
                longer = tuple(Clause((clause.atoms + clause.atoms[::-1])[:3], (clause.tests + clause.tests)[:6])
                               for clause in clauses)
                return (longer + clauses)[:3] if len(clauses) < 3 else longer

            other = Question(question.head * 2 if len(question.head) < 3 else question.head,
                             more(question.clauses), more(question.unless))
            self.assertIs(self.touches(other, more(rules), kind), self.touches(question, rules, kind))

    def test_more_rules(self):
        for number in range(300):
            question, rules, kind = some_case(number)
            told = self.touches(question, rules, kind)
            for fewer in range(len(rules)):
                self.assertTrue(self.touches(question, rules[:fewer], kind) or not told)
            if 0 < len(rules) < 3:
                one = rules[0]
                self.assertIs(self.touches(question, rules + (Clause(one.atoms[:1] + one.atoms[:2], one.tests[:0])
                                                              if len(one.atoms) == 1 and not one.tests else one,), kind), told)

    def test_wider_kinds(self):
        for number in range(300):
            question, rules, (relation, names, first, last) = some_case(number)
            if self.touches(question, rules, (relation, names, first, last)):
                self.assertTrue(self.touches(question, rules, (relation, (None,) * len(names), 0, LAST)))
            else:
                self.assertFalse(self.touches(question, rules, (relation, tuple(told or "bob" for told in names), first, first)))


class JudgeTest(unittest.TestCase):
    """Things that anybody made."""

    def test_touched_of_any_form(self):
        kind, point = ("lives", (None, "rome"), 0, 9), ("lives", ("ann", "rome"), 5)
        home = ("lives", ("ann", "oslo"), 7)
        right = {"points": (home,), "point": point, "now": 7, "names": ("ann",), "is_gain": True}

        def shows(**parts):
            return Touched(**{**right, **parts}).shows(MOVED, (), kind)

        self.assertIs(shows(), True)
        self.assertIs(shows(points=(home, home)), True)
        self.assertIs(shows(points=(home, ("foo", ("a", "b"), 3))), True)
        self.assertIs(shows(points=(home, ("foo", ("a", "b"), 3), ("foo", ("a",), 3))), False)
        self.assertIs(shows(points=(home, ("lives", ("a",), 3))), False)
        for names, told in ((("a",), True), (("a", "b", "c", "d"), True), ((), False), (("a",) * 5, False), (["a"], False)):
            self.assertIs(shows(points=(home, ("foo", names, 3))), told)
        no_points = [None, 5, True, "lives", (), [*home], home[:2], (*home, 1), {}, object(), ("lives", ["ann", "oslo"], 7),
                     ("lives", (), 7), ("lives", ("ann",) * 5, 7), ("lives", None, 7), ("lives", 5, 7), ("lives", object(), 7), ("lives", {}, 7)]
        no_points += [("lives", ("ann", "oslo"), thing) for thing in NO_DAYS] + [(thing, ("ann",), 7) for thing in NO_NAMES]
        no_points += [("lives", ("ann", thing), 7) for thing in NO_NAMES]
        for thing in no_points:
            self.assertIs(shows(points=(home, thing)), False, thing)
            self.assertIs(shows(points=(thing,)), False)
            self.assertIs(shows(point=thing), False)
        for points in (None, 5, "", [home], home, {home: 1}, {home}, object(), (), (home, point), (point,)):
            self.assertIs(shows(points=points), False)
        for other in (("lives", ("ann", "oslo"), 5), ("lives", ("ann", "rome"), 10), ("lives", ("bob", "rome"), 5),
                      ("pays", ("ann",), 5), ("lives", ("rome", "ann"), 5)):
            self.assertIs(shows(point=other), False)
        for now in [*NO_DAYS, 5, 6, 8, LAST]:
            self.assertIs(shows(now=now), False)
        for names in [(), ("bob",), ["ann"], "ann", ("ann", "ann"), None, {"ann": 1}, object(), 5, (None,), (("ann",),)]:
            self.assertIs(shows(names=names), False)
        self.assertIs(shows(is_gain=False), False)
        self.assertIs(shows(point=("lives", ("ann", "rome"), 9)), False)

    def test_touched_of_other_kinds(self):
        home, point = ("lives", ("ann", "oslo"), 7), ("lives", ("ann", "rome"), 5)
        found = Touched((home,), point, 7, ("ann",), True)
        for kind, told in ((("lives", (None, "rome"), 0, 9), True), (("lives", (None, None), 5, 5), True), (("lives", ("ann", None), 0, LAST), True),
                           (("lives", ("ann", "rome"), 5, 9), True), (("lives", ("bob", "rome"), 0, 9), False),
                           (("lives", ("ann", "oslo"), 0, 9), False), (("lives", (None, "oslo"), 0, 9), False), (("lives", ("rome", None), 0, 9), False),
                           (("lives", (None, None), 6, 9), False), (("lives", (None, None), 0, 4), False), (("pays", ("ann",), 0, 9), False),
                           (("loves", ("ann", "rome"), 0, 9), False), (("pays", ("ann", "rome"), 5, 5), False)):
            self.assertIs(found.shows(MOVED, (), kind), told, kind)

    def test_touched_of_other_answers(self):
        # Who is an answer on both sides, or on none, doesn't show anything.
        homes = (("lives", ("ann", "oslo"), 7), ("lives", ("bob", "oslo"), 7), ("lives", ("bob", "rome"), 3))
        point, kind = ("lives", ("ann", "rome"), 5), ("lives", (None, "rome"), 0, 9)
        for names, is_gain, told in ((("ann",), True, True), (("bob",), True, False), (("zoe",), True, False), (("ann",), False, False),
                                     (("bob",), False, False), (("zoe",), False, False)):
            self.assertIs(Touched(homes, point, 7, names, is_gain).shows(MOVED, (), kind), told)
        for is_gain in (None, 0, 1, "", object()):
            self.assertIn(Touched(homes, point, 7, ("ann",), is_gain).shows(MOVED, (), kind), (True, False))

    def test_touched_by_rules(self):
        kind, home = ("lives", (None, "oslo"), 0, 9), ("lives", ("ann", "rome"), 5)
        point = ("lives", ("ann", "oslo"), 5)
        lost = Touched((home,), point, 5, ("ann",), False)
        self.assertIs(lost.shows(ALONE, (), kind), True)
        self.assertIs(lost.shows(ALONE, (ONE_HOME,), kind), False)
        self.assertIs(Touched((home,), point, 5, ("ann",), True).shows(ALONE, (), kind), False)
        # The rules are kept behind it, so ahead of it, too, by points that have nothing to do with it.
        other = ("lives", ("bob", "rome"), 3), ("lives", ("bob", "oslo"), 3)
        gain = Touched(other, home, 5, ("ann",), True)
        self.assertIs(gain.shows(ALONE, (), ("lives", ("ann", None), 5, 5)), True)
        self.assertIs(gain.shows(ALONE, (ONE_HOME,), ("lives", ("ann", None), 5, 5)), False)

    def test_untouched_of_any_form(self):
        kind = ("lives", (None, "oslo"), 0, 0)
        right = touching(MOVED, (), kind, NEVER).trees
        self.assertEqual(len(right), 3)
        self.assertIs(Untouched(right).shows(MOVED, (), kind), True)
        for trees in (None, 5, "", (), right[:2], right + right[:1], list(right), {}, object(), (right,)):
            self.assertIs(Untouched(trees).shows(MOVED, (), kind), False)
        for thing in (None, 5, "clash", (), ["clash"], ("Clash",), ("clash", ()), (("clash",),), (None,), (5,), {}, object(),
                      ("clash", 0, ()), ("barred", 0, ()), ("known", 0, (0,)), ("known", True, (0, 0)),
                      ("known", False, (0, 0)), ("known", -1, (0, 0)), ("known", 0, [0, 0]), ("known", 0, None),
                      ("known", 0, (0, 1)), ("known", 0, (0, -1)), ("known", "0", (0, 0)), ("known", 0, (False, 0)),
                      ("known", 0, (0, 0), ()), (NOW, T), (NOW, T, ()), (NOW, T, (("clash",),) * 2), (NOW, T, (("clash",),) * 4),
                      (NOW, T, [("clash",)] * 3), (NOW, P, (("clash",),) * 3), (NOW, P, (("clash",),) * 2),
                      (P, Q, (("clash",),) * 3), (P, Q, (("clash",), None)), (P, NOW, (("clash",),) * 2), (["clash"], 0, ())):
            for place in range(3):
                trees = right[:place] + (thing,) + right[place + 1:]
                self.assertIs(Untouched(trees).shows(MOVED, (), kind), False, thing)

    def test_terms_of_nodes(self):
        kind = ("lives", (None, "oslo"), 0, 0)
        right = touching(MOVED, (), kind, NEVER).trees

        def shows(one, other, many):
            return Untouched(((one, other, right[:1] * many),) + right[1:]).shows(MOVED, (), kind)

        names = [any_(word) for word in ("p", "q-p", "zz-q", "x-0", "x-1", "x-3", "abcdefgh-p")] + [ROME, name("x")]
        days = [when(word) for word in ("t", "t-p", "u-q", "x-day", "a1")] + [NOW, day(0), day(LAST)]
        for terms, many in ((names, 2), (days, 3)):
            for one, other in itertools.permutations(terms, 2):
                self.assertIs(shows(one, other, many), True)
                self.assertIs(shows(one, other, 5 - many), False)
        for one, other in itertools.product(names, days):
            for many in (2, 3):
                self.assertIs(shows(one, other, many), False)
                self.assertIs(shows(other, one, many), False)
        for term in (None, 5, (), ("any",), ("any", 5), ("any", None), ("any", "p-r"), ("any", "-p"), ("any", "p-"),
                     ("any", "p-p-q"), ("any", "abcdefghi-p"), ("any", "x-4"), ("any", "x-day"), ("any", "x-"), ("any", "p-x-0"),
                     ["any", "p"], ("any", "p", "q"), ("name", "Ann"), ("name", "ann-p"), ("Any", "p"), {}, object(),
                     ("any", ["p"]), ("any", "P-p"), ("any", "p-P"), ("any", b"p-p")):
            self.assertIs(shows(term, ROME, 2), False, term)
            self.assertIs(shows(ROME, term, 2), False, term)
        for term in (None, 5, (), ("when",), ("when", 5), ("when", "t-r"), ("when", "-p"), ("when", "x-0"), ("when", "x-days"),
                     ("when", "t-p-p"), ["now"], ("now", 5), ("day", LAST + 1), ("day", -1), ("day", True), ("day", "5"), {},
                     object(), ("when", ["t"]), ("when", b"x-day"), ("when", None)):
            self.assertIs(shows(term, NOW, 3), False, term)
            self.assertIs(shows(NOW, term, 3), False, term)

    def test_leaves_of_other_bars(self):
        # Facts: none; x is the one atom. A loss has no "known", and its "undone" counts no x.
        kind = ("pays", (None,), *ALL)
        question = Question((P,), (PAYS,), (PAYS,))
        right = touching(question, (), kind, NEVER).trees
        self.assertEqual(right, (("undone", 0, (0,)), ("undone", 0, (0,))))
        for first, second, told in ((("undone", 0, (0,)), ("undone", 0, (0,)), True), (("known", 0, (0,)), right[1], False),
                                    (right[0], ("known", 0, (0,)), False), (right[0], ("undone", 0, (1,)), False),
                                    (("undone", 0, (1,)), right[1], False), (("clash",), right[1], False),
                                    (("undone", 1, (0,)), right[1], False), (("barred", 0, (0,)), right[1], False),
                                    (("undone", 0, ()), right[1], False), (("undone", 0, (0, 0)), right[1], False)):
            self.assertIs(Untouched((first, second)).shows(question, (), kind), told, (first, second))
        # What is asked of a clause must be what the case has as its head.
        pair = Question((P,), (Clause((("pays", (P,), NOW), ("pays", (Q,), NOW)), ()),), ())
        self.assertEqual([case.facts for case in touching_cases(pair, (), kind)],
                         [[("pays", (any_("q-p"),), NOW)], [], [("pays", (any_("p-p"),), NOW)]])
        nobody = (Clause((("pays", (P,), T),), ()),)
        barred = (("barred", 0, (0,)),) * 3
        self.assertIs(Untouched(barred).shows(pair, nobody, kind), True)
        for place, told in ((0, False), (2, True)):
            trees = barred[:place] + (("known", 0, (0, 0)),) + barred[place + 1:]
            self.assertIs(Untouched(trees).shows(pair, nobody, kind), told)
        # A rule has the number that it has among the rules, and its atoms may be the same row.
        rules = (ONE_HOME, Clause((("pays", (P,), T), ("pays", (Q,), U)), (("most", T, U),)))
        plain = Question((P,), (PAYS,), ())
        for leaf, told in ((("barred", 1, (0, 0)), True), (("barred", 0, (0, 0)), False), (("barred", 1, (0,)), False),
                           (("barred", 2, (0, 0)), False), (("barred", 1, (0, 1)), False)):
            self.assertIs(Untouched((leaf,)).shows(plain, rules, kind), told)

    def test_spoilt_trees(self):
        told = {True: 0, False: 0}
        for number in range(500):
            question, rules, kind = some_case(2 * number + 1)
            found = touching(question, rules, kind, NEVER)
            if found or max([leaves(tree) for tree in found.trees], default=0) < 2:
                continue
            cases = touching_cases(question, rules, kind)
            for trees in self.spoilt(dice(number), found.trees):
                shown = Untouched(trees).shows(question, rules, kind)
                told[shown] += 1
                self.assertTrue(shown or not STRICT.are_trees(cases, trees))
                self.assertTrue(not shown or LENIENT.are_trees(cases, trees))
        self.assertTrue(min(told.values()) > 10, told)

    def spoilt(self, chance, trees):
        """Rows of trees with something changed somewhere."""
        for _ in range(12):
            place = chance.randrange(len(trees))
            yield trees[:place] + (self.spoilt_tree(chance, trees[place]),) + trees[place + 1:]

    def spoilt_tree(self, chance, tree):
        if isinstance(tree[0], str):
            numbers = tuple(chance.choice([number, (number + 1) % 3]) for number in tree[2]) if len(tree) == 3 else (0, 1)
            return chance.choice([("clash",), ("barred", chance.randrange(3), numbers), ("known", 0, numbers),
                                  ("undone", chance.randrange(2), numbers[::-1]), tree])
        one, other, trees = tree
        place = chance.randrange(len(trees))
        inner = trees[:place] + (self.spoilt_tree(chance, trees[place]),) + trees[place + 1:]
        return chance.choice([(one, other, inner), (other, one, trees[::-1]), (other, one, trees), (one, other, trees[::-1]),
                              trees[place], (one, other, inner), (one, one, trees)])

    def test_days_that_are_only_unlike(self):
        # Whoever makes a tree may see at once what follows of unlike days, or compare them.
        kind = ("pays", (None,), 0, 1)
        tests = (("unlike", T, U), ("most", U, day(1)))
        question = Question((), (Clause((("pays", (P,), T), ("lives", (P, Q), U)), tests + (("most", T, day(0)),)),), ())
        late = Clause((("lives", (P, Q), T),), (("less", day(0), T),))
        found = touching(question, (late,), kind, NEVER)
        self.assertIs(bool(found), False)
        self.assertTrue(STRICT.are_trees(touching_cases(question, (late,), kind), found.trees))
        self.assertIs(Untouched((("barred", 0, (0,)),)).shows(question, (late,), kind), True)
        compared = ((when("t-p"), when("u-p"), (("barred", 0, (0,)), ("clash",), ("clash",))),)
        self.assertIs(Untouched(compared).shows(question, (late,), kind), True)

    def test_unlike_days_without_room(self):
        days = [when(f"t{number}") for number in range(3)]
        unlike = tuple(("unlike", one, other) for one, other in itertools.combinations(days, 2))
        for bound, told in ((1, True), (2, False)):
            tests = unlike + tuple(("most", hour, day(bound)) for hour in days)
            question = Question((P,), (Clause(tuple(("pays", (P,), hour) for hour in days), tests),), ())
            kind = ("pays", (None,), *ALL)
            for number, case in enumerate(touching_cases(question, (), kind)):
                trees = touching(question, (), kind, NEVER).trees if told else (("clash",),) * 7
                trees = trees[:number] + (("clash",),) + trees[number + 1:]
                self.assertIs(Untouched(trees).shows(question, (), kind), told)
                self.assertIs(LENIENT.walk(case, ("clash",), case.tests), told or number not in (0, 4, 6))

    def test_trees_that_are_deep(self):
        kind = ("pays", ("ann",), *ALL)
        only = Question((P,), (PAYS,), (PAYS,))
        tree = ("undone", 0, (0,))
        for _ in range(1500):
            tree = (NOW, day(5), (tree, ("clash",), ("clash",)))
        # Where NOW is day 5, or behind it, for the first time, nothing clashes yet.
        self.assertIs(Untouched((tree, ("undone", 0, (0,)))).shows(only, (), kind), False)
        tree = (NOW, day(5), (tree, ("undone", 0, (0,)), ("undone", 0, (0,))))
        self.assertIs(Untouched((tree, ("undone", 0, (0,)))).shows(only, (), kind), True)

    def test_equal(self):
        one = Touched((("pays", ("ann",), 5),), ("pays", ("bob",), 5), 5, ("bob",), True)
        self.assertEqual(one, Touched((("pays", ("ann",), 5),), ("pays", ("bob",), 5), 5, ("bob",), True))
        for other in (Touched((), one.point, 5, ("bob",), True), Touched(one.points, None, 5, ("bob",), True),
                      Touched(one.points, one.point, 6, ("bob",), True), Touched(one.points, one.point, 5, (), True),
                      Touched(one.points, one.point, 5, ("bob",), False), Untouched(()), None, 5, True, object()):
            self.assertIs(one == other, False)
            self.assertIs(one != other, True)
        trees = Untouched((("clash",),))
        self.assertEqual((trees, trees.trees), (Untouched((("clash",),)), (("clash",),)))
        for other in (Untouched(()), one, (("clash",),), None, False, object()):
            self.assertIs(trees == other, False)
        self.assertEqual((one.points, one.point, one.now, one.names, one.is_gain),
                         ((("pays", ("ann",), 5),), ("pays", ("bob",), 5), 5, ("bob",), True))


class WrongTest(unittest.TestCase):
    KIND = ("lives", (None, "rome"), 0, 9)

    def fault(self, asked):
        with self.assertRaises(BadQuestion) as caught:
            asked()
        return caught.exception.word

    def assert_faults(self, question, rules, kind, word):
        for most in (0, 1, NEVER):
            self.assertEqual(self.fault(lambda: touching(question, rules, kind, most)), word)
        for found in (Touched((), None, 0, (), True), Untouched(()), Touched(None, None, None, None, None), Untouched(None)):
            self.assertEqual(self.fault(lambda: found.shows(question, rules, kind)), word)

    def test_kinds(self):
        relation, names, first, last = self.KIND
        wrong = [None, 5, "lives", (), self.KIND[:3], (*self.KIND, 5), list(self.KIND), {}, object()]
        wrong += [(thing, names, first, last) for thing in NO_NAMES] + [(relation, names, thing, last) for thing in NO_DAYS]
        wrong += [(relation, names, first, thing) for thing in NO_DAYS] + [(relation, names, 10, 9), (relation, names, LAST, 0)]
        wrong += [(relation, (None, thing), first, last) for thing in NO_NAMES if thing is not None]
        wrong += [(relation, thing, first, last) for thing in (None, (), ("ann",) * 5, ["ann", None], "ann", {}, 5)]
        for kind in wrong:
            self.assert_faults(MOVED, (), kind, "kind")

    def test_rules(self):
        on_day = Clause((("lives", (P, Q), NOW),), ())
        in_test = Clause((("lives", (P, Q), T),), (("less", T, NOW),))
        first_in_test = Clause((("lives", (P, Q), T),), (("same", NOW, day(5)),))
        for rules in (None, 5, "", [ONE_HOME], ONE_HOME, (ONE_HOME,) * 4, (None,), (ONE_HOME, HERE), (on_day,), {},
                      (ONE_HOME, in_test), (first_in_test,), (ONE_HOME, ()), object()):
            self.assert_faults(MOVED, rules, self.KIND, "rules")
            # Rules are looked at ahead of how many names relations have.
            self.assert_faults(MOVED, rules, ("lives", (None,), 0, 9), "rules")
        self.assertTrue(touching(MOVED, (ONE_HOME,) * 3, self.KIND, NEVER))

    def test_of_one_mind(self):
        other = Clause((("lives", (P,), T),), ())
        self.assert_faults(MOVED, (), ("lives", (None,), 0, 9), "relation")
        self.assert_faults(MOVED, (), ("lives", (None,) * 3, 0, 9), "relation")
        self.assert_faults(MOVED, (ONE_HOME, other), self.KIND, "relation")
        self.assert_faults(Question((), (PAYS,), ()), (ONE_HOME, other), ("owns", (None,), 0, 9), "relation")
        self.assert_faults(Question((), (PAYS,), ()), (other,), self.KIND, "relation")
        self.assert_faults(Question((), (PAYS,), ()), (Clause((("lives", (P,), T), ("lives", (P, Q), T)), ()),),
                           ("pays", (None,), 0, 9), "relation")
        self.assert_faults(Question((P,), (PAYS,), (Clause((("lives", (P, P), NOW),), ()),)), (), ("lives", (None,), 0, 9), "relation")

    def test_most(self):
        many = 0
        for number in range(120):
            question, rules, kind = some_case(number)
            with self.assertRaises(TooMany) as caught:
                touching(question, rules, kind, 0)
            self.assertEqual(caught.exception.most, 0)
            told = touching(question, rules, kind, NEVER)
            for most in (1, 2, 5, 50):
                try:
                    self.assertEqual(touching(question, rules, kind, most), told)
                except TooMany as error:
                    many += 1
                    self.assertEqual(error.most, most)
        self.assertGreater(many, 3)
        with self.assertRaises(TooMany):
            touching(MOVED, (), ("owns", (None,), 0, 9), 0)


if __name__ == "__main__":
    unittest.main()
