"""[23], [25], [26]: atoms, clauses and questions, and what is told of wrong ones, the first thing first."""

import itertools
import unittest

from asking import NO_DAY_TERMS, NO_NAME_TERMS, NO_TESTS, NOW, any_, day, name, when
from helpers import LAST, NO_NAMES
from twicedated.askerrors import BadQuestion, BadTerm
from twicedated.questions import Clause, Question

P, Q, T, U = any_("p"), any_("q"), when("t"), when("u")
LIVES = ("lives", (P, Q), NOW)
PAYS = ("pays", (P,), T)


def fault(made):
    """The word of the BadQuestion, or the term of the BadTerm, that is raised."""
    try:
        made()
    except BadQuestion as error:
        return error.word
    except BadTerm as error:
        return "term", error.term
    return None


class ClauseTest(unittest.TestCase):
    def fault(self, atoms, tests=()):
        return fault(lambda: Clause(atoms, tests))

    def test_attributes(self):
        atoms = (LIVES, PAYS, ("abcdefgh", (name("a"), name("a1"), P, P), day(LAST)))
        tests = (("less", T, NOW), ("most", day(0), T), ("same", T, NOW), ("unlike", T, day(5)), ("same", P, name("ann")),
                 ("unlike", Q, P))
        clause = Clause(atoms, tests)
        self.assertEqual((clause.atoms, clause.tests), (atoms, tests))
        clause = Clause((LIVES,), ())
        self.assertEqual((clause.atoms, clause.tests), ((LIVES,), ()))

    def test_equal(self):
        clause = Clause((LIVES, PAYS), (("less", T, NOW),))
        self.assertEqual(clause, Clause((("lives", (P, Q), NOW), PAYS), (("less", T, NOW),)))
        for other in (Clause((PAYS, LIVES), (("less", T, NOW),)), Clause((LIVES, PAYS), ()), Clause((LIVES,), ()),
                      Clause((LIVES, PAYS), (("most", T, NOW),)), None, 5, (LIVES, PAYS), "clause", object(),
                      Question((), (clause,), ())):
            self.assertIs(clause == other, False)
            self.assertIs(clause != other, True)

    def test_one_atom_or_three(self):
        for many in (1, 2, 3):
            self.assertEqual(len(Clause((LIVES,) * many, ()).atoms), many)
        for atoms in ((), (LIVES,) * 4, [LIVES], None, 5, "atoms", {}, {LIVES: True}, object(), (None,) * 4):
            self.assertEqual(self.fault(atoms, None), "atoms")

    def test_forms_of_atoms(self):
        for thing in (None, 5, True, "lives", (), ("lives",), ("lives", (P,)), ("lives", (P,), NOW, NOW), list(PAYS), {},
                      ("lives", [P], NOW), ("lives", P[0], NOW), ("lives", None, NOW), (5, {}, None), object()):
            for atoms in ((thing,), (PAYS, thing), (thing, ("Pays", (P,), T)), (thing, ("pays", (5,), 5))):
                self.assertEqual(self.fault(atoms, None), "atom")

    def test_relations_of_atoms(self):
        for relation in NO_NAMES:
            self.assertEqual(self.fault(((relation, (P,), T),)), "relation")
            self.assertEqual(self.fault(((relation, (5,), 5),), None), "relation")
            self.assertEqual(self.fault((PAYS, (relation, (5,), 5), 5), None), "relation")
        self.assertEqual(self.fault((("pays", (), NOW),)), "relation")
        self.assertEqual(self.fault((("pays", (P,) * 5, NOW),)), "relation")
        self.assertEqual(self.fault((("pays", (5,) * 5, 5), None)), "relation")
        for many in range(1, 5):
            self.assertIsNone(self.fault((("pays", (P,) * many, NOW),)))

    def test_terms_of_names(self):
        for term in NO_NAME_TERMS:
            for atom in (("pays", (term,), NOW), ("lives", (P, term), NOW), ("lives", (term, 7), 8),
                         ("r", (P, name("ann"), Q, term), 8)):
                told = self.fault((atom,), None)
                self.assertEqual(told[0], "term")
                self.assertIs(told[1], term)
                self.assertEqual(self.fault((PAYS, atom, None), None)[0], "term")

    def test_terms_of_days(self):
        for term in NO_DAY_TERMS:
            told = self.fault((LIVES, ("lives", (P, name("ann")), term), None), None)
            self.assertEqual(told[0], "term")
            self.assertIs(told[1], term)
        for term in (NOW, T, day(0), day(LAST), when("abcdefgh"), when("t1")):
            self.assertIsNone(self.fault((("pays", (P,), term),)))

    def test_the_first_wrong_atom(self):
        wrong = {"atom": None, "relation": ("Pays", (P,), T), ("term", 5): ("pays", (5,), T), ("term", 6): ("pays", (P,), 6)}
        for (told, atom), other in itertools.product(wrong.items(), wrong.values()):
            self.assertEqual(self.fault((LIVES, atom, other), None), told)

    def test_tests(self):
        for thing in NO_TESTS:
            for tests in ((thing,), (("less", T, NOW), thing), (thing, ("less", U, NOW))):
                self.assertEqual(self.fault((LIVES, PAYS), tests), "tests")
        for term in NO_DAY_TERMS:
            if term not in (P, name("ann")):
                self.assertEqual(self.fault((LIVES, PAYS), (("same", T, term),)), "tests")
                self.assertEqual(self.fault((LIVES, PAYS), (("same", term, T),)), "tests")
                self.assertEqual(self.fault((LIVES, PAYS), (("same", term, P),)), "tests")
                self.assertEqual(self.fault((LIVES, PAYS), (("same", term, term),)), "tests")
        for tests in (None, 5, [], [("less", T, NOW)], {}, "", object(), (("less", T, NOW),) * 7,
                      (("less", U, NOW),) * 7):
            self.assertEqual(self.fault((LIVES, PAYS), tests), "tests")
        self.assertIsNone(self.fault((LIVES, PAYS), (("less", T, NOW),) * 6))

    def test_variables_of_tests(self):
        for test in (("less", U, NOW), ("less", T, U), ("same", P, any_("x")), ("unlike", any_("t"), P), ("same", T, when("p")),
                     ("less", when("p"), when("q"))):
            self.assertEqual(self.fault((LIVES, PAYS), (test,)), "variable")
            self.assertEqual(self.fault((LIVES, PAYS), (("less", T, NOW), test)), "variable")
            self.assertEqual(self.fault((LIVES, PAYS), (test, None)), "tests")
        # NOW and constants are no variables: they may stand in tests alone.
        self.assertIsNone(self.fault((PAYS,), (("less", NOW, day(3)), ("same", name("ann"), name("bob")))))

    def test_unlike_numbers_of_names_are_let(self):
        self.assertIsNone(self.fault((("pays", (P,), T), ("pays", (P, Q), T))))


class QuestionTest(unittest.TestCase):
    one, other = Clause((LIVES, PAYS), ()), Clause((("pays", (P,), NOW),), ())

    def fault(self, head, clauses, unless=()):
        return fault(lambda: Question(head, clauses, unless))

    def test_attributes(self):
        question = Question((P,), (self.one, self.other), (self.other,))
        self.assertEqual((question.head, question.clauses, question.unless), ((P,), (self.one, self.other), (self.other,)))
        for head in ((), (P,), (P, P), (P, Q, P, Q)):
            self.assertEqual(Question(head, (self.one,) * 3, (self.one,) * 3).head, head)

    def test_equal(self):
        question = Question((P,), (self.one, self.other), (self.other,))
        self.assertEqual(question, Question((P,), (Clause((LIVES, PAYS), ()), self.other), (self.other,)))
        for other in (Question((), (self.one, self.other), (self.other,)), Question((P,), (self.one,), (self.other,)),
                      Question((P,), (self.other, self.one), (self.other,)), Question((P,), (self.one, self.other), ()),
                      self.one, None, 5, ((P,), (self.one, self.other), (self.other,)), object()):
            self.assertIs(question == other, False)
            self.assertIs(question != other, True)

    def test_relations(self):
        self.assertEqual(Question((), (self.one, self.other), ()).relations(), ("lives", "pays"))
        self.assertEqual(Question((), (self.other,), (Clause((("a", (P,), T),), ()),)).relations(), ("a", "pays"))
        self.assertEqual(Question((), (self.other,), ()).relations(), ("pays",))

    def test_heads(self):
        for head in (None, 5, "p", [P], P, (P,) * 5, (T,), (NOW,), (name("ann"),), ("p",), (P, None), (("any", "P"),),
                     (("any", "p-p"),), (["any", "p"],), {}, (P, day(4)), object()):
            self.assertEqual(self.fault(head, None, None), "head")

    def test_clauses(self):
        for clauses in (None, 5, (), [self.one], self.one, (self.one,) * 4, (self.one, None), (LIVES,), {}, ((LIVES,),)):
            self.assertEqual(self.fault((any_("x"),), clauses, None), "clauses")

    def test_unless(self):
        for unless in (None, 5, [], [self.one], self.one, (self.one,) * 4, (self.one, None), (LIVES,), {}, ""):
            self.assertEqual(self.fault((any_("x"),), (self.one,), unless), "unless")

    def test_safe(self):
        self.assertEqual(self.fault((Q,), (self.other,)), "safe")
        self.assertEqual(self.fault((P, Q), (self.one, self.other)), "safe")
        self.assertEqual(self.fault((Q,), (self.one,), (self.one, self.other)), "safe")
        self.assertEqual(self.fault((any_("t"),), (self.one,)), "safe")
        self.assertIsNone(self.fault((Q,), (self.one,), (self.one,)))

    def test_of_one_mind(self):
        more = Clause((("pays", (P, Q), NOW),), ())
        self.assertEqual(self.fault((P,), (self.one, more)), "relation")
        self.assertEqual(self.fault((P,), (self.one,), (self.one, more)), "relation")
        self.assertEqual(self.fault((P,), (self.one,), (more,)), "relation")
        self.assertEqual(self.fault((Q,), (self.other, more)), "safe")
        self.assertIsNone(self.fault((P,), (more,), (more,)))


if __name__ == "__main__":
    unittest.main()
