"""[37]: deeds and their lines; bureaus that fall at each cut, and what is there behind."""

import unittest

from deeds import FACTS, ONE_HOME, RELATIONS, ROME, OwnOffice, some_ask, some_change, some_office
from helpers import LAST, NO_DAYS, NO_INTEGERS, NO_NAMES, dice
from twicedated.askerrors import BadAsk, BadQuestion
from twicedated.bureaus import Bureau, deed_by, deed_line
from twicedated.errors import BadCut, BadRelations

MOST = 10 ** 9
ASK = ("ask", "mayor", 0, 50)
SET = ("change", ("set", "lives", ("ann", "rome"), 0, 99))
CLEAR = ("change", ("clear", "lives", ("ann", "rome"), 50, 60))


def some_deeds(chance, questions, many):
    """Some deeds of an office with these questions."""
    return [("ask", *some_ask(chance, questions)) if chance.random() < 0.45 else ("change", some_change(chance))
            for _ in range(many)]


def outcomes_of(rules, questions, deeds):
    """What comes of deeds, and all letters, by an own office."""
    own, told = OwnOffice(rules, questions), []
    for word, *parts in deeds:
        if word == "ask":
            told.append(("told", own.ask(*parts)))
        else:
            letters = own.change(*parts)
            told.append(("refused",) if letters is None else ("letters", tuple(letters)))
    return told, tuple(own.letters)


def text_of(deeds):
    """The lines of deeds."""
    return "".join(deed_line(number, deed) + "\n" for number, deed in enumerate(deeds))


class DeedTest(unittest.TestCase):
    def test_lines(self):
        for number, deed, line in ((0, ASK, "0 ask mayor 0 50 0"), (17, SET, "17 change set lives ann,rome 0 99 17"),
                                   (999999, CLEAR, "999999 change clear lives ann,rome 50 60 999999"),
                                   (3, ("ask", "a1", 12, LAST), "3 ask a1 12 999999 3"),
                                   (5, ("change", ("set", "r", ("a", "b", "c", "d"), 0, 0)), "5 change set r a,b,c,d 0 0 5"),
                                   (1, ("ask", "change", 0, 0), "1 ask change 0 0 1"),
                                   (1, ("change", ("set", "ask", ("set",), 0, LAST)), "1 change set ask set 0 999999 1")):
            self.assertEqual(deed_line(number, deed), line)
            self.assertEqual(deed_by(number, line), deed)

    def test_there_and_back(self):
        for run in range(100):
            chance = dice(run)
            for deed in some_deeds(chance, [ROME] * 1000, 5):
                number = chance.choice([0, 9, 10, 999999])
                self.assertEqual(deed_by(number, deed_line(number, deed)), deed)

    def test_lines_that_are_none(self):
        for line in ("0 ask mayor 0 50 0", "0 change set lives ann,rome 0 99 0"):
            words = line.split(" ")
            for place in range(len(words)):
                for word in ("", "x", "X", "-1", "00", "01", "1000000", "1234567", "+0", "0x", "?p", "now", "a,b,c,d,e", ",", "a,",
                             "\u0663", "\u00b2", "0\n", "\t0", "ask", "change", "set", "abcdefghi", "0.0", "None"):
                    other = [*words[:place], word, *words[place + 1:]]
                    if self.is_right(other):
                        continue
                    self.assertIsNone(deed_by(0, " ".join(other)), other)
                self.assertIsNone(deed_by(0, " ".join(words[:place] + words[place + 1:])))
                self.assertIsNone(deed_by(0, " ".join(words[:place] + ["1"] + words[place:])))
            for other in (line + "\n", " " + line, line + " ", line.replace(" ", "  "), line.upper(), "", " ", "0", "0 0", "0 ask 0",
                          "0 change 0", "0  0", "\n", line[:-1], line[1:], line + "0"):
                self.assertIsNone(deed_by(0, other), other)
            for number in (1, 10, 999999):
                self.assertIsNone(deed_by(number, line))
        self.assertIsNone(deed_by(10, "10 ask mayor 0 50 010"))
        self.assertIsNone(deed_by(10, "010 ask mayor 0 50 010"))
        self.assertIsNone(deed_by(0, "0 change put lives ann,rome 0 99 0"))
        self.assertIsNone(deed_by(0, "0 letter mayor ann 0"))

    def is_right(self, words):
        """Whether a line is one all the same: names and numbers may be others, and the names of a change fewer."""
        if words[0] != "0" or words[-1] != "0":
            return False
        if words[1] == "ask" and len(words) == 6:
            return words[2] in ("mayor", "x", "now", "ask", "change", "set") and words[3] == "0" and words[4] == "50"
        if words[1] != "change" or words[2] != "set" or words[6] not in ("99",) or words[5] != "0":
            return False
        return words[3] in ("lives", "x", "now", "ask", "change", "set") and words[4] in ("ann,rome", "x", "now", "ask", "change", "set")


class BureauTest(unittest.TestCase):
    def look_at(self, bureau, rules, questions, deeds, settled):
        """deeds: all that were written; settled: how many of them are settled."""
        told, letters = outcomes_of(rules, questions, deeds[:settled])
        self.assertEqual(bureau.text, text_of(deeds[:settled]))
        self.assertEqual(bureau.text + bureau.loose, text_of(deeds))
        self.assertEqual(bureau.outcomes, told)
        self.assertEqual(bureau.letters(), letters)
        self.assertEqual([letter[0] for letter in letters], list(range(len(letters))))

    def test_written_and_settled(self):
        letters = 0
        for run in range(120):
            chance = dice(run)
            rules, questions = some_office(chance)
            bureau, written, settled = Bureau(RELATIONS, rules, questions, MOST, ""), [], 0
            self.look_at(bureau, rules, questions, [], 0)
            for deed in some_deeds(chance, questions, run % 14):
                self.assertEqual(bureau.write(deed), len(written))
                written.append(deed)
                self.look_at(bureau, rules, questions, written, settled)
                if chance.random() < 0.4:
                    told, _ = outcomes_of(rules, questions, written)
                    self.assertEqual(bureau.settle(), tuple(told[settled:]))
                    self.assertEqual(bureau.settle(), ())
                    settled = len(written)
                    self.look_at(bureau, rules, questions, written, settled)
            letters += len(bureau.letters())
        self.assertGreater(letters, 20)

    def test_each_cut(self):
        for run in range(25):
            chance = dice(run)
            rules, questions = some_office(chance)
            deeds = some_deeds(chance, questions, 3 + run % 8)
            settled = chance.randrange(len(deeds))
            bureau = Bureau(RELATIONS, rules, questions, MOST, text_of(deeds[:settled]))
            self.look_at(bureau, rules, questions, deeds[:settled], settled)
            for deed in deeds[settled:]:
                bureau.write(deed)
            posted, loose = bureau.letters(), bureau.loose
            kept = []
            for cut in range(len(loose) + 1):
                left = bureau.fallen(cut)
                self.assertEqual(left, bureau.text + loose[:cut])
                if cut in (0, len(loose)) or loose[cut - 1] == "\n" or chance.random() < 0.1:
                    again = Bureau(RELATIONS, rules, questions, MOST, left)
                    many = settled + loose[:cut].count("\n")
                    self.look_at(again, rules, questions, deeds[:many], many)
                    self.assertEqual(again.loose, "")
                    kept.append(again.letters())
            bureau.settle()
            self.look_at(bureau, rules, questions, deeds, len(deeds))
            # All letters have the numbers that they had, and what was sent ahead of the fall is sent still.
            for letters in kept:
                self.assertEqual(letters, bureau.letters()[:len(letters)])
                self.assertEqual(letters[:len(posted)], posted)

    def test_it_goes_on_behind_a_fall(self):
        bureau = Bureau(RELATIONS, (), [ROME], MOST, "")
        for deed in (SET, ASK, CLEAR):
            bureau.write(deed)
        self.assertEqual((bureau.outcomes, bureau.letters(), bureau.text), ([], (), ""))
        again = Bureau(RELATIONS, (), [ROME], MOST, bureau.fallen(len(bureau.loose) - 1))
        self.assertEqual(again.outcomes, [("letters", ()), ("told", (("ann",),))])
        self.assertEqual(again.write(CLEAR), 2)
        self.assertEqual(again.settle(), (("letters", ((0, "mayor", 0, 50, ()),)),))
        self.assertEqual(again.text, bureau.fallen(len(bureau.loose)))
        bureau.settle()
        self.assertEqual((again.outcomes, again.letters()), (bureau.outcomes, bureau.letters()))

    def test_refused(self):
        bureau = Bureau(RELATIONS, (ONE_HOME,), [ROME], MOST, "")
        other = ("change", ("set", "lives", ("ann", "oslo"), 5, 5))
        self.assertEqual([bureau.write(deed) for deed in (SET, other, ASK)], [0, 1, 2])
        told = (("letters", ()), ("refused",), ("told", (("ann",),)))
        self.assertEqual(bureau.settle(), told)
        self.assertEqual(Bureau(RELATIONS, (ONE_HOME,), [ROME], MOST, bureau.text).outcomes, list(told))

    def test_texts_of_any_signs(self):
        right = text_of([SET, ASK, CLEAR])
        lines = right.splitlines(keepends=True)
        for text, many in (("", 0), ("\n", 0), ("x", 0), ("\n" + right, 0), (right, 3), (right + "\n", 3), (right + "x\n", 3),
                           (right[:-1], 2), (right[:-3], 2), (right + lines[0], 3), (lines[1], 0), (lines[0] + lines[2], 1),
                           (lines[0] + lines[0], 1), (lines[0] + "\n" + lines[1], 1), (right.replace("\n", "\r\n"), 0),
                           (right + "3 ask mayor 1 50 3\n", 3), (right + "3 ask mayor 0 50 3\n", 4), (right + "3 ask Mayor 0 50 3\n", 3),
                           (right + "3 change set owns ann 0 99 3\n", 3), (right + "3 change set pays ann,bob 0 99 3\n", 3),
                           (right + "3 change set pays ann 9 0 3\n", 3), (right + "3 change set pays ann 0 9 3\n", 4),
                           (right + "3 ask mayor 0 1000000 3\n", 3), (right + "3 ask mayor 0 050 3\n", 3), ("\u00e9\u2028\n", 0),
                           (lines[0][:-1] + "\u2028" + lines[1], 0), (lines[0].replace("0", "\u0660"), 0), ("0 0\n", 0), (" \n" * 9, 0)):
            bureau = Bureau(RELATIONS, (), [ROME], MOST, text)
            self.assertEqual(bureau.text, "".join(text.splitlines(keepends=True)[:many]) if many else "", text)
            self.assertEqual((len(bureau.outcomes), bureau.loose), (many, ""))
            self.assertTrue(text.startswith(bureau.text))
        for run in range(60):
            chance = dice(run)
            text = list(right)
            for _ in range(chance.randrange(1, 4)):
                text[chance.randrange(len(text))] = chance.choice("0a ,\n?-\u0663")
            text = "".join(text)
            bureau = Bureau(RELATIONS, (), [ROME], MOST, text)
            self.assertTrue(text.startswith(bureau.text))
            deeds = [deed_by(number, line) for number, line in enumerate(bureau.text.split("\n")[:-1])]
            self.look_at(bureau, (), [ROME], deeds, len(deeds))

    def test_what_cannot_be_asked(self):
        bureau = Bureau(RELATIONS, (), [ROME], MOST, "")
        wrong = [None, 5, True, "ask", (), ("ask",), ASK[:3], (*ASK, 5), [*ASK], ("Ask", *ASK[1:]), ("change",), ("change", None),
                 [*SET], (*SET, 5), ("change", list(SET[1])), ("told", SET[1]), (None, None), (5, "mayor", 0, 50), {}, object(),
                 (["ask"], "mayor", 0, 50), ("letter", "mayor", ("ann",)), SET[1], ("change", ("set", "owns", ("ann",), 0, 9)),
                 ("change", ("set", "pays", ("ann", "bob"), 0, 9)), ("change", ("set", "pays", ("ann",), 9, 0))]
        wrong += [("ask", thing, 0, 50) for thing in NO_NAMES] + [("ask", "mayor", 0, thing) for thing in NO_DAYS]
        wrong += [("ask", "mayor", thing, 50) for thing in [*NO_INTEGERS, -1, 1, 10 ** 30]]
        for many in range(2):
            text, loose = bureau.text, bureau.loose
            for deed in wrong:
                with self.assertRaises(BadAsk) as caught:
                    bureau.write(deed)
                self.assertIs(caught.exception.thing, deed)
            self.assertEqual((bureau.text, bureau.loose), (text, loose))
            self.assertEqual(bureau.write(SET), many)

    def test_wrong_cuts(self):
        bureau = Bureau(RELATIONS, (), [ROME], MOST, text_of([SET]))
        for _ in range(2):
            for cut in [*NO_INTEGERS, -1, len(bureau.loose) + 1, 10 ** 20]:
                with self.assertRaises(BadCut) as caught:
                    bureau.fallen(cut)
                self.assertIs(caught.exception.cut, cut)
            bureau.write(ASK)

    def test_wrong_offices(self):
        for text in ("", text_of([SET]), "x"):
            with self.assertRaises(BadRelations):
                Bureau({"Lives": 2}, None, [5], MOST, text)
            with self.assertRaises(BadQuestion):
                Bureau(RELATIONS, None, [5], MOST, text)
            with self.assertRaises(BadAsk):
                Bureau(RELATIONS, (), [5], MOST, text)


if __name__ == "__main__":
    unittest.main()
