"""Journals: entries in lines that may be cut anywhere, by a fall amid writing."""

from twicedated.entries import CHANGE, LETTER, entry_by, entry_line, is_entry
from twicedated.errors import BadCut, BadEntry
from twicedated.histories import History
from twicedated.lines import END_OF_LINE
from twicedated.relations import checked_relations, is_integer


def _read(relations, text):
    """The list of the entries of the longest beginning of a text that is made of lines of entries."""
    entries = []
    # What is behind the last line feed isn't ended, so it is no line.
    for number, line in enumerate(text.split(END_OF_LINE)[:-1]):
        entry = entry_by(relations, number, line)
        if entry is None:
            break
        entries.append(entry)
    return entries


def _line(number, entry):
    """The line of an entry, ended."""
    return entry_line(number, entry) + END_OF_LINE


class Journal:
    """Entries: those that text tells are settled, those that loose tells may still fall."""

    def __init__(self, relations, text):
        self.relations = checked_relations(relations)
        self.entries = _read(self.relations, text)
        self.text = "".join([_line(number, entry) for number, entry in enumerate(self.entries)])
        self.loose = ""
        self.settled = len(self.entries)

    def write(self, entry):
        """One more entry, loose at first; BadEntry."""
        if not is_entry(self.relations, entry):
            raise BadEntry(entry)
        self.loose += _line(len(self.entries), entry)
        self.entries.append(entry)

    def settle(self):
        """All entries are settled."""
        self.text += self.loose
        self.loose = ""
        self.settled = len(self.entries)

    def fallen(self, cut):
        """The text that is there behind a fall, with so many signs of what was loose; BadCut."""
        if not is_integer(cut) or not 0 <= cut <= len(self.loose):
            raise BadCut(cut)
        return self.text + self.loose[:cut]

    def history(self):
        """The history of all changes."""
        return History(self.relations, [entry[1] for entry in self.entries if entry[0] == CHANGE])

    def letters(self):
        """The dict of the receivers, ascending, to the tuples of the names of their settled letters."""
        found = {}
        for entry in self.entries[:self.settled]:
            if entry[0] == LETTER:
                found.setdefault(entry[1], []).append(entry[2])
        return {receiver: tuple(found[receiver]) for receiver in sorted(found)}
