"""Entries of journals, and the lines in which they are written."""

from twicedated.books import change_fault
from twicedated.relations import is_name
from twicedated.words import change_by, change_words, names_by, names_word, number_by

CHANGE = "change"
LETTER = "letter"
MOST_IN_LETTER = 6


def is_entry(relations, thing):
    """Whether anything is an entry of a journal of these relations."""
    if not isinstance(thing, tuple) or not thing or not isinstance(thing[0], str):
        return False
    if thing[0] == CHANGE:
        return len(thing) == 2 and change_fault(relations, thing[1]) is None
    return thing[0] == LETTER and len(thing) == 3 and is_name(thing[1]) and _are_letter_names(thing[2])


def _are_letter_names(thing):
    """Whether anything is a tuple of as many names as a letter has."""
    if not isinstance(thing, tuple) or not 1 <= len(thing) <= MOST_IN_LETTER:
        return False
    return all([is_name(name) for name in thing])


def entry_line(number, entry):
    """The line of an entry, without a line feed."""
    if entry[0] == CHANGE:
        words = [CHANGE, *change_words(entry[1])]
    else:
        words = [LETTER, entry[1], names_word(entry[2])]
    return " ".join([str(number), *words, str(number)])


def entry_by(relations, number, line):
    """The entry with a number whose line this is; None if there is none."""
    words = line.split(" ")
    if len(words) < 3 or words[0] != words[-1] or number_by(words[0]) != number:
        return None
    entry = _entry_of(words[1:-1])
    return entry if is_entry(relations, entry) else None


def _entry_of(words):
    """The tuple that the words of an entry tell, which is still to be looked at; None if they tell none."""
    if words[0] == CHANGE:
        return CHANGE, change_by(words[1:])
    if words[0] == LETTER and len(words) == 3:
        return LETTER, words[1], names_by(words[2])
    return None
