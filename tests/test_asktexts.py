"""[38]: words of atoms, tests, clauses and answers, there and back."""

import itertools
import unittest

from asking import NOW, any_, day, name, some_clause, when
from helpers import LAST, dice
from twicedated.asktexts import answers_text, atom_of, atom_text, clause_text, test_of, test_text
from twicedated.questions import Clause

P, Q, T, U = any_("p"), any_("q"), when("t"), when("u")
# Words that stand for no term at all.
NO_WORDS = ["", " ", "?", "??p", "?P", "?1", "?abcdefghi", "Ann", "abcdefghi", "a-b", "-", "?p ", " p", "p?", "a b", "?p-p", "@t",
            "\u00e9", "?\u00e9", "\u0663", "a\n", "?a\n", "(", ")", "?(", "a(", "\x00"]
# Words of which none is a day's, though they begin like one.
NO_NUMBERS = ["00", "01", "007", "1000000", "0000001", "9999999", "1a", "0x1", "-1", "+1", "1.0", "1_0", "1 ", "5\n", "\u0661", "1?"]


class AtomTest(unittest.TestCase):
    def test_there_and_back(self):
        for atom, word in ((("lives", (P, name("rome")), T), "lives(?p,rome)@?t"), (("pays", (name("ann"),), NOW), "pays(ann)@now"),
                           (("r", (P, P, Q, name("a1")), day(0)), "r(?p,?p,?q,a1)@0"), (("now", (any_("now"),), day(LAST)), "now(?now)@999999"),
                           (("lives", (any_("t"), name("x")), when("now")), "lives(?t,x)@?now"),
                           (("abcdefgh", (any_("abcdefgh"), name("zzzzzzzz")), when("a2345678")), "abcdefgh(?abcdefgh,zzzzzzzz)@?a2345678")):
            self.assertEqual(atom_text(atom), word)
            self.assertEqual(atom_of(word), atom)

    def test_drawn_ones(self):
        for number in range(200):
            clause = some_clause(dice(number), {"lives": 2, "pays": 1, "owes": 4}, [0, 5, LAST])
            for atom in clause.atoms:
                self.assertEqual(atom_of(atom_text(atom)), atom)

    def test_what_is_none(self):
        for word in [*NO_WORDS, *NO_NUMBERS]:
            self.assertIsNone(atom_of(f"lives({word},rome)@now"), word)
            self.assertIsNone(atom_of(f"lives(rome,{word})@now"), word)
            self.assertIsNone(atom_of(f"lives(rome)@{word}"), word)
            self.assertIsNone(atom_of(f"{word}(rome)@now"), word)
        for word in ("now", "0", "5", "999999"):
            self.assertIsNone(atom_of(f"lives({word})@now"), word)
        for word in ("ann", "rome", "noww", "?"):
            self.assertIsNone(atom_of(f"lives(rome)@{word}"), word)
        for word in ("", "lives", "lives(rome)", "lives()@now", "lives(,)@now", "lives(a,b,c,d,e)@now", "lives(rome)now", "lives(rome@now",
                     "(rome)@now", "?p(rome)@now", "lives((rome))@now", "lives(rome)@now ", " lives(rome)@now", "lives(rome)@@now",
                     "lives (rome)@now", "lives(rome) @now", "lives(rome)@ now", "lives(rome)@now\n", "lives(rome)@now@now", "lives[rome]@now",
                     "lives(rome)@now)@now", "lives(rome)@(now)", "lives(rome)@", "@now", "lives(rome, a)@now", "1(rome)@now", ")@now("):
            self.assertIsNone(atom_of(word), word)

    def test_words_of_any_signs(self):
        right = "lives(?p,rome)@?t"
        for number in range(2000):
            chance = dice(number)
            word = list(right)
            for _ in range(chance.randrange(1, 4)):
                word[chance.randrange(len(word))] = chance.choice(["", "a", "?", ",", "(", ")", "@", "0", ")@", "now", "\n", " "])
            word = "".join(word)
            atom = atom_of(word)
            if atom is not None:
                self.assertEqual(atom_text(atom), word)
                Clause((atom,), ())


class TestTest(unittest.TestCase):
    SIGNS = {"less": "<", "most": "<=", "same": "=", "unlike": "!="}

    def test_days(self):
        terms = {NOW: "now", T: "?t", U: "?u", day(0): "0", day(LAST): "999999", when("now"): "?now"}
        for (word, sign), (one, here), (other, there) in itertools.product(self.SIGNS.items(), terms.items(), terms.items()):
            test = (word, one, other)
            self.assertEqual(test_text(test), here + sign + there)
            for days in (["t", "u", "now"], ("now", "u", "t"), {"t": 1, "u": 1, "now": 1}, {"t", "u", "now"}):
                self.assertEqual(test_of(here + sign + there, days), test)

    def test_names(self):
        terms = {P: "?p", any_("t"): "?t", name("ann"): "ann", name("a1"): "a1", any_("now"): "?now"}
        for (one, here), (other, there) in itertools.product(terms.items(), terms.items()):
            for word, sign in self.SIGNS.items():
                test = (word, one, other)
                if word in ("same", "unlike"):
                    self.assertEqual(test_text(test), here + sign + there)
                for days in ([], ["u"], ("ann", "a1")):
                    self.assertEqual(test_of(here + sign + there, days), test if word in ("same", "unlike") else None)

    def test_of_days_by_one_term(self):
        for word, test in (("?p<now", ("less", when("p"), NOW)), ("now!=?p", ("unlike", NOW, when("p"))), ("?p=5", ("same", when("p"), day(5))),
                           ("?p=?t", ("same", when("p"), T)), ("?t<=?p", ("most", T, when("p"))), ("?t=?t", ("same", T, T)),
                           ("?p=?q", ("same", P, Q)), ("?p<?q", None), ("ann=?t", None), ("now=ann", None), ("ann=5", None),
                           ("ann=?p", ("same", name("ann"), P)), ("t=?p", ("same", name("t"), P)), ("t=t", ("same", name("t"), name("t"))),
                           ("0<1", ("less", day(0), day(1)))):
            self.assertEqual(test_of(word, ["t"]), test, word)
        self.assertEqual(test_of("?t=?p", []), ("same", any_("t"), P))

    def test_what_is_none(self):
        for word, sign, days in itertools.product([*NO_WORDS, *NO_NUMBERS], self.SIGNS.values(), ([], ["t"], ["t", "p"])):
            for other in ("now", "?t", "?p", "5", "ann"):
                self.assertIsNone(test_of(word + sign + other, days), word)
                self.assertIsNone(test_of(other + sign + word, days), word)
        for word in ("", "=", "<", "<=", "!=", "now", "?t", "5", "now==now", "now=<now", "now>now", "now>=now", "now!now", "now<>now", "now = now",
                     "now= now", "now<=<now", "now<now<now", "now!==now", "now=!now", "now=now=now", "lives(?p)@now", "now<=now\n", "?t=?",
                     "!=now", "now!=", "<now", "now<"):
            self.assertIsNone(test_of(word, ["t"]), word)

    def test_words_of_any_signs(self):
        for number in range(2000):
            chance = dice(number)
            word = "".join(chance.choice(["?t", "?p", "t", "now", "5", "0", "<", "<=", "=", "!=", "?a"]) for _ in range(chance.randrange(1, 7)))
            test = test_of(word, ["t"])
            if test is not None:
                self.assertEqual(test_text(test), word)
                words = [term[1] for term in test[1:] if term[0] in ("any", "when")] + ["p"]
                atoms = tuple(("lives", (any_(word), P), when(word)) for word in words)
                self.assertEqual(Clause(atoms, (test,) * 6).tests, (test,) * 6)


class ClauseTest(unittest.TestCase):
    def test_clauses(self):
        clause = Clause((("lives", (P, Q), NOW), ("lives", (P, name("rome")), T)), (("less", T, NOW), ("unlike", Q, name("rome"))))
        self.assertEqual(clause_text(clause), "lives(?p,?q)@now lives(?p,rome)@?t ?t<now ?q!=rome")
        self.assertEqual(clause_text(Clause((("pays", (P,), day(5)),), ())), "pays(?p)@5")

    def test_there_and_back(self):
        for number in range(200):
            clause = some_clause(dice(number), {"lives": 2, "pays": 1}, [0, 5, LAST])
            words = clause_text(clause).split(" ")
            atoms = tuple(atom_of(word) for word in words[:len(clause.atoms)])
            days = [last[1] for _, _, last in atoms if last[0] == "when"]
            self.assertEqual(Clause(atoms, tuple(test_of(word, days) for word in words[len(atoms):])), clause)


class AnswersTest(unittest.TestCase):
    def test_answers(self):
        for answers, text in (((), "-"), (((),), "yes"), ((("ann",),), "ann"), ((("ann", "rome"),), "ann,rome"),
                              ((("ann",), ("bob",)), "ann;bob"), ((("ann", "rome"), ("bob", "oslo"), ("bob", "rome")), "ann,rome;bob,oslo;bob,rome"),
                              ((("a", "b", "c", "d"),), "a,b,c,d"), ((("yes",),), "yes")):
            self.assertEqual(answers_text(answers), text)
            self.assertEqual(answers_text(list(answers)), text)


if __name__ == "__main__":
    unittest.main()
