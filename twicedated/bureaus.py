"""Bureaus: offices whose deeds stand in lines that may be cut anywhere, by a fall amid writing."""

from twicedated.askerrors import BadAsk
from twicedated.books import change_fault
from twicedated.errors import BadCut
from twicedated.lines import END_OF_LINE
from twicedated.offices import Office
from twicedated.relations import MOST_NAMES, is_integer, is_name
from twicedated.words import change_by, change_words, number_by

ASK = "ask"
CHANGE = "change"


def deed_line(number, deed):
    """The line of a deed, without a line feed."""
    words = change_words(deed[1]) if deed[0] == CHANGE else [deed[1], str(deed[2]), str(deed[3])]
    return " ".join([str(number), deed[0], *words, str(number)])


def deed_by(number, line):
    """The deed with a number whose line this is; None if there is none."""
    words = line.split(" ")
    if len(words) < 3 or words[0] != words[-1] or number_by(words[0]) != number:
        return None
    if words[1] == ASK:
        return _ask_by(words[2:-1])
    return _change_by(words[2:-1]) if words[1] == CHANGE else None


def _ask_by(words):
    """The deed that the words of asking tell; None if they tell none."""
    if len(words) != 3 or not is_name(words[0]):
        return None
    number = number_by(words[1])
    day = number_by(words[2])
    return None if number is None or day is None else (ASK, words[0], number, day)


def _change_by(words):
    """The deed that the words of a change tell; None if it is a change of no relations."""
    change = change_by(words)
    if change is None or change[2] is None or len(change[2]) > MOST_NAMES:
        return None
    return None if change_fault({change[1]: len(change[2])}, change) is not None else (CHANGE, change)


def _line(number, deed):
    """The line of a deed, ended."""
    return deed_line(number, deed) + END_OF_LINE


class Bureau:
    """Deeds of an office: those that text tells are settled and done, those that loose tells may still fall."""

    def __init__(self, relations, rules, questions, most, text):
        self.office = Office(relations, rules, questions, most)
        self.outcomes = []
        self.posted = []
        self.waiting = []
        self.loose = ""
        # What is behind the last line feed isn't ended, so it is no line.
        lines = text.split(END_OF_LINE)[:-1]
        for number, line in enumerate(lines):
            deed = deed_by(number, line)
            if not self.can_ask(deed):
                break
            self.outcomes.append(self._done(deed))
        self.text = "".join([line + END_OF_LINE for line in lines[:len(self.outcomes)]])

    def can_ask(self, thing):
        """Whether anything is a deed that can be asked of this office."""
        if not isinstance(thing, tuple) or not thing or not isinstance(thing[0], str):
            return False
        if thing[0] == CHANGE:
            return len(thing) == 2 and change_fault(self.office.history.relations, thing[1]) is None
        if thing[0] != ASK or len(thing) != 4:
            return False
        return is_name(thing[1]) and self.office.has_question(thing[2], thing[3])

    def _done(self, deed):
        """What comes of a deed that is done."""
        if deed[0] == ASK:
            return "told", self.office.ask(deed[1], deed[2], deed[3])
        letters = self.office.change(deed[1])
        if letters is None:
            return ("refused",)
        self.posted.extend(letters)
        return "letters", tuple(letters)

    def write(self, deed):
        """The number of one more deed, loose at first, and not done yet; BadAsk."""
        if not self.can_ask(deed):
            raise BadAsk(deed)
        number = len(self.outcomes) + len(self.waiting)
        self.loose += _line(number, deed)
        self.waiting.append(deed)
        return number

    def settle(self):
        """The tuple of what comes of all loose deeds, which are settled first, and then done."""
        deeds = self.waiting
        self.text += self.loose
        self.loose = ""
        self.waiting = []
        came = [self._done(deed) for deed in deeds]
        self.outcomes.extend(came)
        return tuple(came)

    def fallen(self, cut):
        """The text that is there behind a fall, with so many signs of what was loose; BadCut."""
        if not is_integer(cut) or not 0 <= cut <= len(self.loose):
            raise BadCut(cut)
        return self.text + self.loose[:cut]

    def letters(self):
        """The tuple of all letters, by their numbers."""
        return tuple(self.posted)
