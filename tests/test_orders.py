"""[23], [24]: tests that can hold together or can't, and what follows of them, against trying all days and names."""

import itertools
import time
import unittest

from asking import NOW, any_, day, holds, is_day_term, is_free, name, when, worths
from helpers import LAST, dice
from twicedated.orders import Known, can_hold, solved
from twicedated.relations import is_day, is_name

LOW = list(range(5))
HIGH = list(range(LAST - 4, LAST + 1))
# More names than there are variables of names in any case here, so that all can be unlike.
NAMES = ["ann", "bob", "n0", "n1", "x0", "x1", "x2", "x3"]
DAY_WORDS = ["less", "most", "same", "unlike"]
HOURS = [when("t"), when("u"), when("v"), NOW]
PEOPLE = [any_("p"), any_("q"), any_("r"), name("ann"), name("bob")]


def day_tests(chance, days, words=DAY_WORDS, many=6):
    """Some tests of days, and tests that bound all their terms to a row of days."""
    terms = HOURS + [day(chance.choice(days)) for _ in range(2)]
    tests = [(chance.choice(words), chance.choice(terms), chance.choice(terms)) for _ in range(chance.randrange(many))]
    bounds = [("most", term, day(days[-1])) if days[0] == 0 else ("most", day(days[0]), term) for term in HOURS]
    return tests + bounds


def name_tests(chance):
    """Some tests of names."""
    return [(chance.choice(["same", "unlike"]), chance.choice(PEOPLE), chance.choice(PEOPLE))
            for _ in range(chance.randrange(6))]


def terms_of(tests):
    """The terms of tests."""
    return {term for test in tests for term in test[1:]}


class HoldTest(unittest.TestCase):
    def look_at(self, tests, can):
        handed = list(tests)
        self.assertIs(can_hold(tests), can, tests)
        self.assertIs(can_hold(tuple(tests)), can)
        found = solved(tests)
        self.assertEqual(solved(tuple(tests)), found)
        self.assertEqual(tests, handed)
        if not can:
            self.assertIsNone(found, tests)
            return
        self.assertEqual(set(found), terms_of(tests))
        for term, thing in found.items():
            self.assertTrue(is_day(thing) if is_day_term(term) else is_name(thing))
            self.assertTrue(is_free(term) or term[1] == thing)
        for test in tests:
            self.assertTrue(holds(test, found), test)

    def test_days_of_a_small_row(self):
        both = set()
        for number in range(600):
            chance = dice(number)
            days = chance.choice([LOW[:2], LOW[:3], LOW, HIGH, HIGH[-2:], HIGH[-3:]])
            tests = day_tests(chance, days)
            can = bool(worths(terms_of(tests), tests, days, []))
            both.add(can)
            self.look_at(tests, can)
        self.assertEqual(both, {True, False})

    def test_days_of_all(self):
        # Far from each other and from all constants there is always room for four unlike days.
        days = LOW + [500000, 500001, 500002, 500003] + HIGH
        for number in range(300):
            chance = dice(number)
            terms = HOURS[:3] + [day(chance.choice([0, 1, LAST - 1, LAST])) for _ in range(2)]
            tests = [(chance.choice(DAY_WORDS), chance.choice(terms), chance.choice(terms))
                     for _ in range(chance.randrange(7))]
            self.look_at(tests, bool(worths(terms_of(tests), tests, days, [])))

    def test_names(self):
        both = set()
        for number in range(400):
            tests = name_tests(dice(number))
            can = bool(worths(terms_of(tests), tests, [], NAMES))
            both.add(can)
            self.look_at(tests, can)
        self.assertEqual(both, {True, False})

    def test_both_sorts(self):
        for number in range(100):
            chance = dice(number)
            hours, people = day_tests(chance, LOW[:3]), name_tests(chance)
            can = bool(worths(terms_of(hours), hours, LOW[:3], [])) and bool(worths(terms_of(people), people, [], NAMES))
            tests = hours + people
            chance.shuffle(tests)
            self.look_at(tests, can)

    def test_no_tests(self):
        self.look_at([], True)
        self.assertEqual(solved(()), {})

    def test_one_name_for_both_sorts(self):
        self.look_at([("same", any_("t"), name("ann")), ("same", when("t"), day(5)), ("same", when("u"), when("t"))], True)

    def test_one_test_behind_the_other(self):
        hours = [when(f"t{number}") for number in range(40)]
        row = [("less", one, other) for one, other in zip(hours, hours[1:])]
        for extra, can in (([], True), ([("most", hours[-1], day(39))], True), ([("most", hours[-1], day(38))], False),
                           ([("less", hours[-1], day(40))], True), ([("less", hours[-1], day(39))], False),
                           ([("most", day(LAST - 39), hours[0])], True), ([("less", day(LAST - 39), hours[0])], False),
                           ([("less", hours[-1], hours[0])], False), ([("same", hours[3], hours[20])], False),
                           ([("unlike", hours[3], hours[20])], True), ([("most", hours[20], hours[3])], False)):
            self.look_at(row + extra, can)

    def test_day_0_and_the_last_one(self):
        for test, can in ((("less", NOW, day(0)), False), (("most", NOW, day(0)), True), (("less", day(LAST), NOW), False),
                          (("most", day(LAST), NOW), True), (("less", NOW, day(1)), True), (("same", NOW, day(LAST)), True),
                          (("less", NOW, NOW), False), (("most", NOW, NOW), True), (("same", NOW, NOW), True),
                          (("unlike", NOW, NOW), False), (("less", day(3), day(4)), True), (("less", day(4), day(4)), False),
                          (("same", day(4), day(5)), False), (("unlike", day(4), day(5)), True)):
            self.look_at([test], can)

    def test_unlike_days_in_few(self):
        for many in range(2, 10):
            hours = [when(f"t{number}") for number in range(many)]
            tests = [("unlike", one, other) for one, other in itertools.combinations(hours, 2)]
            for first in (0, 700000, LAST - many + 1):
                last = first + many - 1
                inside = [("most", day(first), hour) for hour in hours] + [("most", hour, day(last)) for hour in hours]
                self.look_at(tests + inside, True)
                narrow = [("most", hour, day(last - 1)) for hour in hours]
                self.look_at(tests + inside + narrow, False)

    def test_rings_of_unlike_days(self):
        for many in range(3, 12):
            hours = [when(f"t{number}") for number in range(many)]
            tests = [("unlike", one, other) for one, other in zip(hours, hours[1:] + hours[:1])]
            two = [("less", hour, day(2)) for hour in hours]
            self.look_at(tests + two, many % 2 == 0)

    def test_several_unlike_days_in_few(self):
        both = []
        for number in range(150):
            chance = dice(number)
            hours = [when(word) for word in "abcdef"]
            days = chance.choice([LOW[:3], HIGH[-3:], LOW[:4]])
            tests = [("most", hour, day(days[-1])) if days[0] == 0 else ("most", day(days[0]), hour) for hour in hours]
            tests += [("unlike", *chance.sample(hours, 2)) for _ in range(chance.randrange(6, 20))]
            tests += [(chance.choice(["most", "less"]), *chance.sample(hours, 2)) for _ in range(chance.randrange(4))]
            chance.shuffle(tests)
            both.append(bool(worths(terms_of(tests), tests, days, [])))
            self.look_at(tests, both[-1])
        self.assertTrue(30 < sum(both) < 120, sum(both))

    def test_many_unlike_days(self):
        began = time.process_time()
        hours = [when(f"t{number}") for number in range(24)]
        tests = [("unlike", one, other) for one, other in itertools.combinations(hours, 2)]
        self.look_at(tests, True)
        far = [when(word) for word in "xyz"]
        tests += [("unlike", one, other) for one, other in itertools.combinations(far, 2)]
        self.look_at(tests + [("most", hour, day(1)) for hour in far], False)
        self.assertLess(time.process_time() - began, 60)

    def test_many_unlike_names(self):
        people = [any_(f"p{number}") for number in range(30)] + [name(f"n{number}") for number in range(10)]
        self.look_at([("unlike", one, other) for one, other in itertools.combinations(people, 2)], True)

    def test_names_by_way_of_others(self):
        p, q, r = any_("p"), any_("q"), any_("r")
        self.look_at([("same", p, q), ("same", q, r), ("unlike", p, r)], False)
        self.look_at([("same", p, name("ann")), ("same", q, p), ("same", q, name("bob"))], False)
        self.look_at([("same", p, name("ann")), ("same", q, p), ("unlike", q, name("bob"))], True)
        self.look_at([("same", name("ann"), name("ann"))], True)
        self.look_at([("same", name("ann"), name("bob"))], False)
        self.look_at([("unlike", p, p)], False)

    def test_variables_with_marks(self):
        self.look_at([("less", when("x-day"), when("t-p")), ("same", any_("x-0"), any_("p-p"))], True)


class KnownTest(unittest.TestCase):
    def look_at(self, tests, asked, rows, days, is_exact):
        """rows: all that the terms of the tests can be; days: what a new one can be."""
        known = Known(tests)
        for test in asked:
            said = known.says(test)
            new = [term for term in test[1:] if term not in rows[0]]
            all_so = {holds(test, row) for row in worths(new, [], days, NAMES, rows)}
            if said is not None:
                self.assertEqual(all_so, {said}, (tests, test))
            elif is_exact:
                self.assertEqual(all_so, {True, False}, (tests, test))
            self.assertIs(Known(tuple(tests)).says(test), said)

    def days_asked(self, words, is_exact):
        for number in range(150):
            chance = dice(number)
            days = chance.choice([LOW[:3], LOW[:4], HIGH])
            tests = day_tests(chance, days, words)
            rows = worths(terms_of(tests), tests, days, [])
            if not rows:
                continue
            # Where a term is new, all days are its own: those of the row, one beside it, and far ones.
            more = [number for number in {*days, days[0] - 1, days[-1] + 1, 0, 500000, LAST} if 0 <= number <= LAST]
            terms = [*HOURS, day(days[0]), day(days[1]), day(days[-1]), day(500000), day(0), day(LAST), when("new")]
            asked = [(chance.choice(DAY_WORDS), chance.choice(terms), chance.choice(terms)) for _ in range(25)]
            self.look_at(tests, asked, rows, more, is_exact)

    def test_days(self):
        self.days_asked(["less", "most", "same"], True)

    def test_days_with_unlike(self):
        self.days_asked(DAY_WORDS, False)

    def test_names(self):
        for number in range(150):
            chance = dice(number)
            tests = name_tests(chance)
            rows = worths(terms_of(tests), tests, [], NAMES)
            if not rows:
                continue
            terms = PEOPLE + [any_("new"), name("x3")]
            asked = [(chance.choice(["same", "unlike"]), chance.choice(terms), chance.choice(terms)) for _ in range(20)]
            self.look_at(tests, asked, rows, [], True)

    def test_of_no_tests(self):
        known = Known([])
        for test, said in ((("most", day(0), NOW), True), (("less", NOW, day(0)), False), (("most", NOW, day(LAST)), True),
                           (("less", day(LAST), when("t")), False), (("less", day(3), day(4)), True),
                           (("less", day(4), day(3)), False), (("most", day(4), day(3)), False),
                           (("same", day(3), day(3)), True), (("unlike", day(3), day(4)), True),
                           (("less", when("t"), when("t")), False), (("most", when("t"), when("t")), True),
                           (("same", NOW, NOW), True), (("unlike", NOW, NOW), False), (("same", when("t"), when("u")), None),
                           (("less", day(0), NOW), None), (("most", when("t"), NOW), None),
                           (("same", name("ann"), name("ann")), True), (("same", name("ann"), name("bob")), False),
                           (("unlike", name("ann"), name("bob")), True), (("same", any_("p"), any_("p")), True),
                           (("unlike", any_("p"), any_("p")), False), (("same", any_("p"), any_("q")), None),
                           (("unlike", any_("p"), name("ann")), None)):
            self.assertIs(known.says(test), said, test)

    def test_two_more_at_least(self):
        t, u, v = when("t"), when("u"), when("v")
        known = Known([("less", t, u), ("less", u, v)])
        self.assertIs(known.says(("less", t, v)), True)
        self.assertIs(known.says(("most", v, t)), False)
        self.assertIs(known.says(("less", v, day(2))), False)
        self.assertIs(known.says(("less", v, day(3))), None)
        self.assertIs(known.says(("most", day(2), v)), True)
        self.assertIs(known.says(("most", t, day(LAST - 2))), True)
        self.assertIs(known.says(("unlike", t, v)), True)
        self.assertIs(Known([("less", t, u), ("less", u, v), ("less", v, day(4))]).says(("less", t, day(2))), True)
        self.assertIs(Known([("less", t, u), ("less", u, v), ("less", v, day(3))]).says(("same", t, day(0))), True)

    def test_unlike_by_itself_and_at_most(self):
        t, u = when("t"), when("u")
        self.assertIs(Known([("unlike", t, u)]).says(("same", u, t)), False)
        self.assertIs(Known([("unlike", t, u)]).says(("unlike", u, t)), True)
        self.assertIs(Known([("unlike", t, u), ("most", t, u)]).says(("less", t, u)), True)
        self.assertIs(Known([("unlike", t, day(0))]).says(("less", day(0), t)), True)

    def test_of_tests_that_cannot_hold(self):
        for tests in ([("less", NOW, NOW)], [("less", NOW, day(0))], [("same", name("ann"), name("bob"))],
                      [("unlike", when("t"), when("u")), ("same", when("t"), when("u"))], [("unlike", any_("p"), any_("p"))]):
            for test in (("less", NOW, when("t")), ("same", any_("p"), name("ann")), ("unlike", when("t"), when("u"))):
                self.assertIn(Known(tests).says(test), (True, False, None))


if __name__ == "__main__":
    unittest.main()
