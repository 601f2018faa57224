"""[39]: scripts line by line, and the first wrong word of each wrong one."""

import itertools
import unittest

from deeds import FACTS, RELATIONS, OwnOffice, some_ask, some_change, some_office
from helpers import LAST, dice
from twicedated.asktexts import answers_text, clause_text
from twicedated.errors import BadText
from twicedated.shell import run_script
from twicedated.touching import touching
from twicedated.within import never, within
from twicedated.words import change_words

MOST = 10 ** 9
AHEAD = """relation lives 2
relation pays 1
never lives(?p,?q)@?t lives(?p,?r)@?t ?q!=?r
question ?p
or lives(?p,rome)@now
unless pays(?p)@now
question
or pays(?p)@?t ?t<now
question ?p ?q
or lives(?p,?q)@now""".split("\n")
GO = len(AHEAD)


def run(*lines):
    """What comes of lines behind those ahead of `go`."""
    return run_script("\n".join([*AHEAD, "go", *lines]))


class ScriptTest(unittest.TestCase):
    def test_deeds(self):
        told = run("ask mayor 0 50", "set lives ann,rome 0 99", "ask mayor 1 999999", "ask bob 2 50", "set lives ann,oslo 50 50",
                   "set pays ann 50 60", "clear lives ann,rome 50 60", "set lives ann,oslo 50 50", "ask ann 0 50", "then 0 0 50",
                   "then 1 0 50", "then 2 0 50", "then 4 2 50", "then 2 1 50", "then 2 1 51")
        self.assertEqual(told, [
            "told -", "letter 0 mayor 0 50 ann", "moment 1", "told -", "told ann,rome", "refused", "letter 1 mayor 0 50 -",
            "letter 2 mayor 1 999999 yes", "moment 2", "letter 3 bob 2 50 -", "moment 3", "letter 4 bob 2 50 ann,oslo", "moment 4",
            "told -", "then -", "then ann", "then -", "then ann,oslo", "then -", "then yes"])

    def test_what_is_so_in_all_books(self):
        self.assertEqual(run("touches 0 lives -,rome 0 999999", "touches 0 lives -,oslo 0 999999", "touches 0 pays - 0 0",
                             "touches 1 pays ann 999999 999999", "touches 1 pays ann 999998 999999", "touches 2 lives -,- 5 5",
                             "touches 1 lives -,- 5 5", "within 0 0", "within 1 1", "empty 0", "empty 1"),
                         ["touches", "never touches", "touches", "never touches", "touches", "touches", "never touches", "within",
                          "within", "some answer", "some answer"])
        lines = ["relation pays 1", "question ?p", "or pays(?p)@now", "question ?p", "or pays(?p)@now ?p!=ann", "question",
                 "or pays(?p)@?t ?t<0", "question ?p", "or pays(?p)@now", "unless pays(?p)@?t", "go"]
        self.assertEqual(run_script("\n".join([*lines, "within 0 1", "within 1 0", "within 3 1", "empty 2", "empty 3", "empty 0"])),
                         ["not within", "within", "within", "no answer ever", "no answer ever", "some answer"])

    def test_against_an_own_office(self):
        for number in range(80):
            chance = dice(number)
            rules, questions = some_office(chance)
            own, told = OwnOffice(rules, questions), []
            lines = [f"relation {word} {many}" for word, many in RELATIONS.items()]
            lines += [f"never {clause_text(rule)}" for rule in rules]
            for question in questions:
                lines.append(" ".join(["question", *[f"?{term[1]}" for term in question.head]]))
                lines += [f"or {clause_text(clause)}" for clause in question.clauses]
                lines += [f"unless {clause_text(clause)}" for clause in question.unless]
            lines.append("go")
            for _ in range(12):
                what = chance.choice(["ask", "change", "change", "then", "touches", "within", "empty"])
                who, one, now = some_ask(chance, questions)
                if what == "ask":
                    lines.append(f"ask {who} {one} {now}")
                    told.append(f"told {answers_text(own.ask(who, one, now))}")
                elif what == "change":
                    change = some_change(chance)
                    lines.append(" ".join(change_words(change)))
                    letters = own.change(change)
                    told += ["refused"] if letters is None else [
                        f"letter {sent} {who} {one} {now} {answers_text(found)}" for sent, who, one, now, found in letters] + [
                        f"moment {len(own.books) - 1}"]
                elif what == "then":
                    moment = chance.randrange(len(own.books))
                    lines.append(f"then {moment} {one} {now}")
                    told.append(f"then {answers_text(own.answers(one, now, moment))}")
                elif what == "touches":
                    relation, names = chance.choice(FACTS)
                    kind = relation, tuple(chance.choice([None, word]) for word in names), 0, chance.choice([0, 5, LAST])
                    lines.append(f"touches {one} {relation} {','.join(word or '-' for word in kind[1])} 0 {kind[3]}")
                    told.append("touches" if touching(questions[one], rules, kind, MOST) else "never touches")
                elif what == "empty":
                    lines.append(f"empty {one}")
                    told.append("no answer ever" if never(questions[one], rules, MOST) else "some answer")
                else:
                    other = chance.choice([place for place, question in enumerate(questions)
                                           if len(question.head) == len(questions[one].head)])
                    lines.append(f"within {one} {other}")
                    told.append("within" if within(questions[one], questions[other], rules, MOST) else "not within")
            self.assertEqual(run_script("\n".join(lines)), told)

    def test_nothing_done(self):
        self.assertEqual(run_script("go"), [])
        self.assertEqual(run(), [])
        self.assertEqual(run_script("question\nor pays(?p)@now\nrelation pays 1\ngo"), [])
        # Clauses may tell of relations that the office hasn't.
        self.assertEqual(run_script("never owns(?p)@?t\nquestion ?p\nor owns(?p)@now\ngo\nask bob 0 5\nempty 0"), ["told -", "no answer ever"])


class WrongTest(unittest.TestCase):
    def assert_wrong(self, text, line, *words):
        with self.assertRaises(BadText) as caught:
            run_script(text)
        self.assertEqual(caught.exception.line, line, text)
        self.assertIn(caught.exception.word, words, text)

    def ahead(self, lines, line, *words):
        """Whether lines are wrong there, whatever stands behind."""
        for behind in (["go"], [], ["x"], ["go", "x"]):
            self.assert_wrong("\n".join([*lines, *behind]), line, *words)

    def behind(self, line, *words):
        """Whether a line behind `go` is wrong there, whatever stands behind."""
        for others in ([], ["ask bob 0 5"], ["x"]):
            self.assert_wrong("\n".join([*AHEAD, "go", "set pays ann 5 5", line, *others]), GO + 2, *words)

    def test_no_go(self):
        self.assert_wrong("", 0, 0)
        self.assert_wrong("relation pays 1", 1, 0)
        self.assert_wrong("\n".join(AHEAD), GO, 0)
        # Without `go` it doesn't matter whether there is an office.
        self.assert_wrong("question ?p", 1, 0)

    def test_first_words(self):
        for word in ("", "Go", "go\t", "goo", "x", "set", "ask", "then", "touches", "within", "empty", "clear", "fact", "relations"):
            self.ahead([word], 0, 0)
            self.ahead([*AHEAD, word], GO, 0)
            self.ahead([*AHEAD, f"{word} pays 1"], GO, 0)
        for word in ("", "x", "go", "relation", "never", "question", "or", "unless", "told", "put"):
            self.behind(word, 0)
            self.behind(f"{word} 0 0 0", 0)
        self.assert_wrong("go\n", 1, 0)
        self.assert_wrong("\n".join([*AHEAD, "go"]) + "\n", GO + 1, 0)
        self.assert_wrong("\ngo", 0, 0)
        self.assert_wrong(" go", 0, 0)
        for line in ("go x", "go go", "go "):
            self.assert_wrong("\n".join([*AHEAD, line, "ask bob 0 5"]), GO, 0, 1)

    def test_relations(self):
        for line, word in (("relation", 1), ("relation ", 1), ("relation Pays 1", 1), ("relation pays", 2), ("relation pays 0", 2),
                           ("relation pays 5", 2), ("relation pays 01", 2), ("relation pays x", 2), ("relation pays ", 2), ("relation pays 1 ", 3),
                           ("relation pays 1 x", 3), ("relation  pays 1", 1), ("relation lives 2", 1), ("relation lives x", 1), ("relation 1 1", 1),
                           ("relation pays 1000000", 2), ("relation pays -1", 2), ("relation abcdefghi 1", 1)):
            self.ahead(["relation lives 2", line], 1, word)

    def test_questions(self):
        for line, word in (("question p", 1), ("question ?P", 1), ("question ?", 1), ("question ", 1), ("question ?p ", 2), ("question ?p ?p q", 3),
                           ("question ?p ?q ?r ?s ?t", 5), ("question  ?p", 1), ("question ?abcdefghi", 1), ("question ?p x ?q ?r ?s ?t", 2)):
            self.ahead([*AHEAD, line], GO, word)
        for line in ("or pays(?p)@now", "unless pays(?p)@now", "or", "or x", "unless"):
            self.ahead(["relation pays 1", line], 1, 0)

    def test_clauses(self):
        atom = "pays(?p)@?t"
        for told, word in (("", 1), (" ", 1), (" x", 1), (" ?t<now", 1), (f" {atom} x", 2), (f" {atom} ", 2), (f"  {atom}", 1), (f" {atom} ?t>now", 2),
                           (f" {atom} {atom} {atom} {atom}", 4), (f" {atom} {atom} {atom} {atom} x", 4), (f" {atom} ?t<5 {atom}", 3),
                           (f" {atom} ?t<5 ?p!=ann x", 4), (" pays()@now", 1), (" pays(a,b,c,d,e)@now", 1), (f" {atom} pays()@now", 2),
                           (" pays(?p)", 1), (" pays(?p)@ann", 1), (" pays(now)@5", 1), (" pays(?p)@05", 1), (" pays(?p)@1000000", 1),
                           (f" {atom} ?p<?p", 2), (f" {atom} ?t<ann", 2), (f" {atom} now=ann", 2), (f" {atom} ?t<05", 2), (f" {atom} ?t<1000000", 2),
                           # By its numbers, and by its variables, its word 1.
                           (f" {atom}" + " ?t<9" * 7, 1), (f" {atom} ?u<now", 1), (f" {atom} ?q=?p", 1), (f" {atom} ?p=?p ?q=ann", 1),
                           (f" {atom} ?p=?t", 1), (f" {atom} ?u<now x", 3), (f" {atom}" + " ?t<9" * 7 + " x", 9)):
            for begin in ("never", "or", "unless"):
                self.ahead([*AHEAD, begin + told], GO, word)
        for begin in ("or", "unless"):
            self.assertEqual(run_script("\n".join([*AHEAD[:9], f"{begin} {atom} {atom} pays(?q)@9" + " ?t<9" * 6, "or lives(?p,?q)@9", "go"])), [])

    def test_no_office_together(self):
        rule = "never pays(?p)@?t"
        for lines in (["never pays(?p)@now"], ["never pays(?p)@?t ?t<now"], [rule] * 4, ["question ?p"], ["question"], ["question ?p", "unless pays(?p)@now"],
                      ["question ?p", "or pays(?q)@now"], ["question ?p", "or pays(?p)@now", "unless pays(?q)@now"],
                      ["question"] + ["or pays(?p)@now"] * 4, ["question", "or pays(?p)@now"] + ["unless pays(?p)@now"] * 4,
                      ["never pays(?p,?q)@?t"], ["question", "or pays(?p,?q)@now"], ["question", "or pays(?p)@now", "or lives(?p)@now"],
                      [rule, "question", "or owns(?p)@now", "question", "or owns(?p,?p)@now"]):
            for told in (["relation pays 1", "relation lives 2", *lines], [*lines, "relation lives 2", "relation pays 1"]):
                for behind in (["go", "x"], ["go"], ["x", "go"]):
                    self.assert_wrong("\n".join([*told, *behind]), len(told), 0)

    def test_asks(self):
        for line, word in (("ask", 1), ("ask ", 1), ("ask Bob 0 5", 1), ("ask 1 0 5", 1), ("ask bob", 2), ("ask bob x 5", 2), ("ask bob 3 5", 2), ("ask bob 00 5", 2),
                           ("ask bob -1 5", 2), ("ask bob 0", 3), ("ask bob 0 x", 3), ("ask bob 0 05", 3), ("ask bob 0 1000000", 3), ("ask bob 0 now", 3),
                           ("ask bob 0 5 ", 4), ("ask bob 0 5 5", 4), ("ask  bob 0 5", 1), ("ask abcdefghi 9 x", 1), ("ask bob 9 x x", 2)):
            self.behind(line, word)
        for line, word in (("then", 1), ("then 2 0 5", 1), ("then x 0 5", 1), ("then 01 0 5", 1), ("then -1 0 5", 1), ("then 1", 2), ("then 1 3 5", 2),
                           ("then 1 x 5", 2), ("then 1 0", 3), ("then 1 0 x", 3), ("then 1 0 1000000", 3), ("then 1 0 5 5", 4), ("then 1 0 5 ", 4),
                           ("then 2 9 x", 1)):
            self.behind(line, word)
        self.assert_wrong("go\nask bob 0 5", 1, 2)
        self.assert_wrong("go\nthen 1 0 5", 1, 1)

    def test_changes(self):
        for begin in ("set", "clear"):
            # What is none by its names, or by the order of its days, is none as a whole.
            for told in ("lives ann 0 9", "lives ann,rome,x 0 9", "pays Ann 0 9", "pays ann, 0 9", "pays ?p 0 9", "pays - 0 9", "pays ann 9 0"):
                self.behind(f"{begin} {told}", 0)
            for told, words in (("", (0, 1)), (" ", (0, 1)), (" owns ann 0 9", (0, 1)), (" Pays ann 0 9", (0, 1)), (" pays", (0, 2)),
                                (" pays ann", (0, 3)), (" pays ann x 9", (0, 3)), (" pays ann 0", (0, 4)), (" pays ann 0 x", (0, 4)),
                                (" pays ann 00 9", (0, 3)), (" pays ann 0 1000000", (0, 4)), (" pays ann 0 9 9", (0, 5)), (" pays ann 0 9 ", (0, 5))):
                self.behind(begin + told, *words)

    def test_kinds(self):
        for line, words in (("touches", (1,)), ("touches x lives -,- 0 9", (1,)), ("touches 3 lives -,- 0 9", (1,)), ("touches 0", (2,)),
                            ("touches 0 owns - 0 9", (2,)), ("touches 0 Lives -,- 0 9", (2,)), ("touches 0 lives", (3,)), ("touches 0 lives - 0 9", (0, 3)),
                            ("touches 0 pays -,- 0 9", (3,)), ("touches 0 pays Ann 0 9", (3,)), ("touches 0 pays -- 0 9", (3,)), ("touches 0 pays ?p 0 9", (3,)),
                            ("touches 0 lives -,-", (4,)), ("touches 0 lives -,- x 9", (4,)), ("touches 0 lives -,- 0", (5,)), ("touches 0 lives -,- 0 x", (5,)),
                            ("touches 0 lives -,- 0 1000000", (5,)), ("touches 0 lives -,- 9 0", (0, 5)), ("touches 0 lives -,- 0 9 9", (6,)),
                            ("touches 0 lives -,- 0 09", (5,)), ("touches 0 lives , 0 9", (3,)), ("touches 9 owns x", (1,))):
            self.behind(line, *words)

    def test_two_questions(self):
        for line, word in (("within", 1), ("within x 0", 1), ("within 3 0", 1), ("within 0", 2), ("within 0 3", 2), ("within 0 x", 2), ("within 0 1", 2),
                           ("within 1 2", 2), ("within 0 0 0", 3), ("within 0 0 ", 3), ("within 0 1 0", 2), ("within 00 0", 1), ("empty", 1),
                           ("empty 3", 1), ("empty x", 1), ("empty 0 0", 2), ("empty 0 ", 2), ("empty  0", 1)):
            self.behind(line, word)

    def test_the_first_wrong_line(self):
        wrong = ["x", "never x", "question x", "relation x"]
        for one, other in itertools.permutations(wrong, 2):
            self.ahead([*AHEAD, one, other], GO, 0, 1, 2)
        self.assert_wrong("\n".join([*AHEAD, "go", "ask bob 0 5", "ask bob 9 5", "x"]), GO + 2, 2)


if __name__ == "__main__":
    unittest.main()
