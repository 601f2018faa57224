"""[17]: journals that fall at each cut, and what is there behind."""

import unittest

from helpers import LAST, NO_INTEGERS, RELATIONS, dice, some_changes
from twicedated.entries import entry_line
from twicedated.errors import BadCut, BadEntry, BadRelations
from twicedated.histories import History
from twicedated.journals import Journal

FACTS = [("pays", ("bob",)), ("lives", ("ann", "rome")), ("pays", ("ann",))]
LETTER = ("letter", "bob", ("ann", "rome"))
CHANGE = ("change", ("set", "lives", ("ann", "rome"), 0, LAST))


def some_entries(chance, many):
    """Some entries of both kinds."""
    changes = some_changes(chance, FACTS, many)
    return [("change", change) if chance.random() < 0.5
            else ("letter", chance.choice(["ann", "bob", "zoe"]), tuple(chance.choice("abc") for _ in range(chance.randrange(1, 7))))
            for change in changes]


def text_of(entries):
    """The lines of entries."""
    return "".join(entry_line(number, entry) + "\n" for number, entry in enumerate(entries))


class JournalTest(unittest.TestCase):
    def look_at(self, journal, entries, settled):
        """entries: all that were written; settled: how many of them are settled."""
        self.assertEqual(journal.text, text_of(entries[:settled]))
        self.assertEqual(journal.entries, entries)
        self.assertEqual(journal.text + journal.loose, text_of(entries))
        self.assertEqual(journal.settled, settled)
        self.assertEqual(journal.history(), History(RELATIONS, [entry[1] for entry in entries if entry[0] == "change"]))
        letters = [entry for entry in entries[:settled] if entry[0] == "letter"]
        told = {who: tuple(names for _, receiver, names in letters if receiver == who)
                for who in sorted({letter[1] for letter in letters})}
        self.assertEqual(list(journal.letters().items()), list(told.items()))

    def test_written_and_settled(self):
        for number in range(60):
            chance = dice(number)
            journal, written, settled = Journal(RELATIONS, ""), [], 0
            self.look_at(journal, [], 0)
            for entry in some_entries(chance, number % 12):
                self.assertIsNone(journal.write(entry))
                written.append(entry)
                self.look_at(journal, written, settled)
                if chance.random() < 0.4:
                    self.assertIsNone(journal.settle())
                    settled = len(written)
                    self.assertEqual(journal.loose, "")
                    self.look_at(journal, written, settled)

    def test_each_cut(self):
        for number in range(40):
            chance = dice(number)
            entries = some_entries(chance, 1 + number % 5)
            settled = chance.randrange(len(entries) + 1)
            journal = Journal(RELATIONS, text_of(entries[:settled]))
            for entry in entries[settled:]:
                journal.write(entry)
            loose = journal.loose
            for cut in range(len(loose) + 1):
                left = journal.fallen(cut)
                self.assertEqual(left, journal.text + loose[:cut])
                again = Journal(RELATIONS, left)
                kept = settled + loose[:cut].count("\n")
                self.look_at(again, entries[:kept], kept)
                self.assertEqual(again.loose, "")
            self.look_at(journal, entries, settled)
            self.assertEqual(journal.fallen(0), text_of(entries[:settled]))
            self.assertEqual(journal.fallen(len(loose)), text_of(entries))

    def test_wrong_cuts(self):
        journal = Journal(RELATIONS, "")
        for many in range(2):
            for cut in [*NO_INTEGERS, -1, len(journal.loose) + 1, 10 ** 20]:
                with self.assertRaises(BadCut) as caught:
                    journal.fallen(cut)
                self.assertIs(caught.exception.cut, cut)
            journal.write(LETTER)
        journal.settle()
        with self.assertRaises(BadCut):
            journal.fallen(1)
        self.assertEqual(journal.fallen(0), journal.text)

    def test_texts(self):
        first, then = "0 letter bob ann,rome 0\n", "1 change set lives ann,rome 0 999999 1\n"
        for text, left in (("", ""), (first, first), (first + then, first + then), (first[:-1], ""), (first + then[:-1], first),
                           (first + "\n" + then, first), ("\n" + first, ""), (then, ""), (first + first, first),
                           (first + then.replace("1 ", "2 ", 1), first), (first + then.replace(" 1\n", " 2\n"), first),
                           (first + "1 letter bob 1\n" + then, first), (first + then + "x", first + then), ("\n", ""),
                           (first.replace("\n", "\r\n"), ""), (first.replace("\n", "\r"), ""), (" " + first, ""),
                           (first + then.replace("lives", "owns"), first), (first.replace("\n", "\u2028"), ""),
                           (first + then.replace(" 0 ", " 00 "), first), (first + "01" + then[1:], first),
                           (first + then + first, first + then), ("\u0660" + first[1:], ""), (first + "\u00b2" + then[1:], first)):
            entries = [LETTER, CHANGE][:left.count("\n")]
            journal = Journal(RELATIONS, text)
            self.look_at(journal, entries, len(entries))
            self.assertEqual((journal.text, journal.loose), (left, ""))
            self.assertEqual(Journal(RELATIONS, journal.text).entries, entries)

    def test_texts_of_any_signs(self):
        chance = dice(9)
        entries = some_entries(chance, 6)
        text = text_of(entries)
        for _ in range(2000):
            signs = list(text)
            at = chance.randrange(len(signs))
            signs[at:at + chance.choice([0, 1])] = [chance.choice("0 1,a\n\u0661\x00")] * chance.choice([0, 1])
            told = "".join(signs)
            journal = Journal(RELATIONS, told)
            self.assertTrue(told.startswith(journal.text))
            self.assertEqual(journal.text, text_of(journal.entries))
            # The lines ahead of the sign are there all the same.
            self.assertTrue(journal.text.startswith(text[:at][:text[:at].rfind("\n") + 1]))

    def test_numbers_go_on(self):
        journal = Journal(RELATIONS, text_of([LETTER, CHANGE]) + "2 letter bo")
        journal.write(LETTER)
        self.assertEqual(journal.loose, "2 letter bob ann,rome 2\n")
        journal.write(CHANGE)
        journal.settle()
        self.look_at(journal, [LETTER, CHANGE, LETTER, CHANGE], 4)

    def test_bad_relations(self):
        for relations, name in (({"pays": 1, "Lives": 2, "x": 0}, "Lives"), ({"pays": 5}, "pays"), ({"a": True}, "a")):
            with self.assertRaises(BadRelations) as caught:
                Journal(relations, "no line")
            self.assertEqual(caught.exception.name, name)

    def test_relations_are_not_kept(self):
        relations = {"pays": 1, "lives": 2}
        journal = Journal(relations, "")
        relations["owns"] = 1
        with self.assertRaises(BadEntry):
            journal.write(("change", ("set", "owns", ("ann",), 0, 1)))

    def test_bad_entries(self):
        journal = Journal(RELATIONS, text_of([LETTER]))
        for thing in (None, 5, (), ("letter", "bob", ()), ("change", None), list(LETTER), ("letter", "bob", ["ann"]),
                      ("change", ("set", "owns", ("ann",), 0, 1)), ("change", ("set", "lives", ("ann", "rome"), 1, 0))):
            with self.assertRaises(BadEntry) as caught:
                journal.write(thing)
            self.assertIs(caught.exception.entry, thing)
            self.look_at(journal, [LETTER], 1)

    def test_bad_line_does_not_hinder_letters(self):
        journal = Journal(RELATIONS, "")
        journal.write(LETTER)
        self.assertEqual(journal.letters(), {})
        journal.settle()
        self.assertEqual(journal.letters(), {"bob": (("ann", "rome"),)})


if __name__ == "__main__":
    unittest.main()
