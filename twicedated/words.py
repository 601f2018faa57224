"""Words of lines: numbers, names and changes, written and read back."""

from twicedated.relations import FIGURES, is_name

MOST_FIGURES = 6


def number_by(word):
    """The integer from 0 to 999,999 that a word tells; None if it tells none, or has a needless 0."""
    if not 1 <= len(word) <= MOST_FIGURES or not all([sign in FIGURES for sign in word]):
        return None
    if word[0] == "0" and word != "0":
        return None
    return int(word)


def names_word(names):
    """The word of names."""
    return ",".join(names)


def names_by(word):
    """The tuple of the names that a word tells; None if one is none."""
    names = tuple(word.split(","))
    return names if all([is_name(name) for name in names]) else None


def change_words(change):
    """The list of the words of a change."""
    word, relation, names, first, last = change
    return [word, relation, names_word(names), str(first), str(last)]


def change_by(words):
    """The tuple that words of a change tell, which is still to be looked at; None if they aren't five."""
    if len(words) != 5:
        return None
    word, relation, names, first, last = words
    return word, relation, names_by(names), number_by(first), number_by(last)
