"""Words of atoms, tests, clauses and answers, and back."""

from twicedated.relations import FIGURES, MOST_NAMES, is_name
from twicedated.terms import NOW
from twicedated.words import names_word, number_by

VARIABLE = "?"
NOW_WORD = "now"
# Longer signs first: the others are parts of them.
SIGNS = (("!=", "unlike"), ("<=", "most"), ("<", "less"), ("=", "same"))
OF_NAMES = ("same", "unlike")


def _term_text(term):
    """The word of a term."""
    if term == NOW:
        return NOW_WORD
    return VARIABLE + term[1] if term[0] in ("any", "when") else str(term[1])


def variable_of(word):
    """The name of the variable that a word tells; None if it tells none."""
    return word[1:] if word.startswith(VARIABLE) and is_name(word[1:]) else None


def _name_of(word):
    """The term of names that a word tells; None if it tells none. What is written `now` is a day."""
    if variable_of(word) is not None:
        return "any", variable_of(word)
    return ("name", word) if is_name(word) and word != NOW_WORD else None


def _day_of(word):
    """The term of days that a word tells; None if it tells none."""
    if word == NOW_WORD:
        return NOW
    if variable_of(word) is not None:
        return "when", variable_of(word)
    return ("day", number_by(word)) if number_by(word) is not None else None


def atom_text(atom):
    """The word of an atom."""
    relation, names, day = atom
    inner = ",".join([_term_text(term) for term in names])
    return f"{relation}({inner})@{_term_text(day)}"


def atom_of(word):
    """The atom whose word this is; None if there is none."""
    relation, _, rest = word.partition("(")
    inner, _, last = rest.partition(")@")
    # Where a sign is lacking, nothing is left for the day, which is none then.
    names = [_name_of(part) for part in inner.split(",")]
    day = _day_of(last)
    if not is_name(relation) or day is None:
        return None
    if len(names) > MOST_NAMES or not all([name is not None for name in names]):
        return None
    return relation, tuple(names), day


def test_text(test):
    """The word of a test."""
    signs = {word: sign for sign, word in SIGNS}
    return _term_text(test[1]) + signs[test[0]] + _term_text(test[2])


def _tells_day(word, days):
    """Whether a term's word tells by itself that it is one of days; days are the names of variables of days."""
    return word == NOW_WORD or word[:1] in list(FIGURES) or variable_of(word) in days


def test_of(word, days):
    """The test whose word this is, days being the names of variables of days; None if there is none."""
    for sign, kind in SIGNS:
        if sign in word:
            one, _, other = word.partition(sign)
            if _tells_day(one, days) or _tells_day(other, days):
                return _test_or_none(kind, _day_of(one), _day_of(other))
            return _test_or_none(kind, _name_of(one), _name_of(other)) if kind in OF_NAMES else None
    return None


def _test_or_none(kind, one, other):
    """The test of two terms, None if one of them is none."""
    return None if one is None or other is None else (kind, one, other)


def clause_text(clause):
    """The words of a clause."""
    return " ".join([*[atom_text(atom) for atom in clause.atoms], *[test_text(test) for test in clause.tests]])


def answers_text(answers):
    """The word of answers."""
    if not answers:
        return "-"
    return ";".join([names_word(names) if names else "yes" for names in answers])
