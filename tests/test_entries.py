"""[16]: entries, and lines of any signs."""

import unittest

from helpers import LAST, NO_DAYS, NO_NAMES, RELATIONS, dice
from twicedated.entries import entry_by, entry_line, is_entry

CHANGE = ("change", ("set", "lives", ("ann", "rome"), 0, 99))
LETTER = ("letter", "bob", ("ann", "rome", "a1"))
LINES = {0: (CHANGE, "0 change set lives ann,rome 0 99 0"), 7: (LETTER, "7 letter bob ann,rome,a1 7"),
         999999: (("change", ("clear", "pays", ("abcdefgh",), 0, LAST)), "999999 change clear pays abcdefgh 0 999999 999999"),
         12: (("letter", "x", ("y",)), "12 letter x y 12"), 100: (("letter", "x", ("y",) * 6), "100 letter x y,y,y,y,y,y 100")}
SIGNS = "0019 ,-abz\nA.\t\u0663\u00b2"


class EntryTest(unittest.TestCase):
    def test_entries(self):
        for entry in (CHANGE, LETTER, ("letter", "bob", ("ann",)), ("letter", "bob", ("ann",) * 6),
                      ("change", ("clear", "pays", ("ann",), LAST, LAST))):
            self.assertIs(is_entry(RELATIONS, entry), True)

    def test_things_of_any_form(self):
        wrong = [None, 5, True, "change", b"change", (), [], {}, object(), ("change",), ("letter",), ("letter", "bob"),
                 list(CHANGE), list(LETTER), (*CHANGE, 1), (*LETTER, 1), ("Change", CHANGE[1]), ("Letter", "bob", ("ann",)),
                 (5, CHANGE[1]), (None, "bob", ("ann",)), (["letter"], "bob", ("ann",)), CHANGE[1], ("change", LETTER),
                 ("change", None), ("change", list(CHANGE[1])), ("change", ()), ("change", ("put", *CHANGE[1][1:])),
                 ("change", ("set", "owns", ("ann", "rome"), 0, 9)), ("change", ("set", "lives", ("ann",), 0, 9)),
                 ("change", ("set", "lives", ("ann", "Rome"), 0, 9)), ("change", ("set", "lives", ("ann", "rome"), 9, 8)),
                 ("change", ("set", "lives", ["ann", "rome"], 0, 9)), ("letter", "bob", ()), ("letter", "bob", ("ann",) * 7),
                 ("letter", "bob", ["ann"]), ("letter", "bob", "ann"), ("letter", "bob", None), ("letter", ("bob",), ("ann",))]
        wrong += [("change", ("set", "lives", ("ann", "rome"), 0, thing)) for thing in NO_DAYS]
        wrong += [("change", ("set", thing, ("ann", "rome"), 0, 9)) for thing in NO_NAMES]
        wrong += [("letter", thing, ("ann",)) for thing in NO_NAMES] + [("letter", "bob", (thing,)) for thing in NO_NAMES]
        wrong += [("letter", "bob", ("ann", thing)) for thing in NO_NAMES]
        for thing in wrong:
            self.assertIs(is_entry(RELATIONS, thing), False, thing)
        self.assertIs(is_entry({}, CHANGE), False)
        self.assertIs(is_entry({}, LETTER), True)
        self.assertIs(is_entry({"lives": 1}, CHANGE), False)


class LineTest(unittest.TestCase):
    def test_lines(self):
        for number, (entry, line) in LINES.items():
            self.assertEqual(entry_line(number, entry), line)
            self.assertEqual(entry_by(RELATIONS, number, line), entry)
            self.assertTrue(is_entry(RELATIONS, entry))

    def test_of_other_numbers_and_relations(self):
        for number, (entry, line) in LINES.items():
            for other in (0, 1, 7, 12, 70, 99999, 999999):
                self.assertEqual(entry_by(RELATIONS, other, line), entry if other == number else None)
        self.assertIsNone(entry_by({}, 0, LINES[0][1]))
        self.assertIsNone(entry_by({"lives": 3}, 0, LINES[0][1]))
        self.assertEqual(entry_by({}, 7, LINES[7][1]), LETTER)

    def test_lines_that_are_none(self):
        for line in ("", " ", "0", "0 0", "0 change 0", "0 letter 0", "0 change set 0", "0 letter bob 0", "0 letter bob  0",
                     "0 letter bob ann", "letter bob ann", "0 letter bob ann 1", "1 letter bob ann 0", "00 letter bob ann 00",
                     "0 letter bob ann 00", "0 letter bob ann 0 ", " 0 letter bob ann 0", "0 letter  bob ann 0",
                     "0 letter bob ann 0\n", "0 letter bob ann, 0", "0 letter bob ,ann 0", "0 letter bob ann,,bob 0",
                     "0 letter Bob ann 0", "0 letter bob Ann 0", "0 letter bob a,a,a,a,a,a,a 0", "0 Letter bob ann 0",
                     "0 letter bob ann bob 0", "0 change set lives ann,rome 00 99 0", "0 change set lives ann,rome 0 099 0",
                     "0 change set lives ann,rome 9 8 0", "0 change set lives ann,rome 0 1000000 0", "0 set lives ann,rome 0 9 0",
                     "0 change put lives ann,rome 0 9 0", "0 change set owns ann,rome 0 9 0", "0 change set lives ann 0 9 0",
                     "0 change set lives ann,rome,x 0 9 0", "0 change set lives ann,rome 0 9", "0 change set lives ann,rome 0 9 9 0",
                     "0 change set lives ann,rome -1 9 0", "0 change set lives ann,rome +1 9 0", "0 change set lives ann,rome 0 9. 0",
                     "0 change set lives ann,rome \u0663 9 0", "0 change set lives ann,rome \u00b2 9 0", "-0 letter bob ann -0",
                     "\u0660 letter bob ann \u0660", "0 letter b\u00f6b ann 0", "0 letter bob ann\t0", "0\tletter bob ann 0"):
            self.assertIsNone(entry_by(RELATIONS, 0, line), line)
        self.assertIsNone(entry_by(RELATIONS, 1000000, "1000000 letter bob ann 1000000"))

    def test_lines_of_any_signs(self):
        chance = dice(5)
        for _ in range(4000):
            number, (entry, line) = chance.choice(sorted(LINES.items()))
            signs = list(line)
            for _ in range(chance.choice([0, 1, 1, 2])):
                at = chance.randrange(len(signs))
                signs[at:at + chance.choice([0, 1, 1])] = [chance.choice(SIGNS)] * chance.choice([0, 1])
            told = "".join(signs)
            found = entry_by(RELATIONS, number, told)
            if found is not None:
                self.assertIs(is_entry(RELATIONS, found), True)
                self.assertEqual(entry_line(number, found), told)
            elif told == line:
                self.fail(line)
            self.assertIsNone(entry_by(RELATIONS, number, "".join(chance.choice(SIGNS) for _ in range(9))))


if __name__ == "__main__":
    unittest.main()
