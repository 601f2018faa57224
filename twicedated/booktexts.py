"""Histories and books as texts, and back; and drawings of what was known when."""

from twicedated.books import CLEAR, SET, Book
from twicedated.histories import History, check_moment, is_among
from twicedated.lines import END_OF_LINE, lines_of
from twicedated.relations import MOST_NAMES, is_name
from twicedated.words import change_words, names_by, names_word, number_by

RELATION = "relation"
FACT = "fact"


def _relation_lines(relations):
    """The lines of relations."""
    return [f"{RELATION} {name} {relations[name]}" for name in sorted(relations)]


def write_history(history):
    """The text of a history."""
    lines = [" ".join(change_words(change)) for change in history.changes]
    return END_OF_LINE.join(_relation_lines(history.relations) + lines)


def write_book(book):
    """The text of a book."""
    lines = []
    for relation, names in book.rows:
        spans = [f"{first}-{last}" for first, last in book.rows[(relation, names)]]
        lines.append(" ".join([FACT, relation, names_word(names), *spans]))
    return END_OF_LINE.join(_relation_lines(book.relations) + lines)


def read_relation(line, relations):
    """The name that the next words of a line tell, which no relation has as yet, and how many names it has; BadText."""
    name = line.word()
    line.check(is_name(name) and name not in relations)
    many = number_by(line.word())
    line.check(many is not None and 1 <= many <= MOST_NAMES)
    line.check_over()
    return name, many


def _read_relations(lines):
    """The relations that the first ones of some lines tell, and the list of the other lines; BadText."""
    relations = {}
    for line in lines:
        if line.words[0] != RELATION:
            break
        line.word()
        name, many = read_relation(line, relations)
        relations[name] = many
    return relations, lines[len(relations):]


def _read_fact(line, relations):
    """The fact that the next two words of a line tell; BadText."""
    relation = line.word()
    line.check(relation in relations)
    names = names_by(line.word())
    line.check(names is not None and len(names) == relations[relation])
    return relation, names


def _read_change(line, relations):
    """The change that a line tells; BadText."""
    word = line.word()
    line.check(word in (SET, CLEAR))
    relation, names = _read_fact(line, relations)
    first = number_by(line.word())
    line.check(first is not None)
    last = number_by(line.word())
    line.check(last is not None and first <= last)
    line.check_over()
    return word, relation, names, first, last


def _span_by(word):
    """The span that a word tells; None if it tells none."""
    days = [number_by(part) for part in word.split("-")]
    if len(days) != 2 or days[0] is None or days[1] is None or days[0] > days[1]:
        return None
    return days[0], days[1]


def _read_spans(line):
    """The row of the spans that all next words of a line tell, at least one; BadText."""
    row = []
    while not row or not line.is_over():
        span = _span_by(line.word())
        line.check(span is not None and (not row or row[-1][1] + 1 < span[0]))
        row.append(span)
    return tuple(row)


def read_history(text):
    """The history of which this is the text; BadText."""
    relations, lines = _read_relations(lines_of(text))
    return History(relations, [_read_change(line, relations) for line in lines])


def read_book(text):
    """The book of which this is the text; BadText."""
    relations, lines = _read_relations(lines_of(text))
    rows = {}
    for line in lines:
        line.check(line.word() == FACT)
        fact = _read_fact(line, relations)
        line.check(fact not in rows)
        rows[fact] = _read_spans(line)
    return Book(relations, rows)


def draw_columns(history, fact, days, moments):
    """A text for each moment between two, with a sign for each day between two: # if a fact was known, else a point.

    BadMoment.
    """
    for moment in moments:
        check_moment(moment, 0, history.last_moment())
    columns = history.columns(fact)
    return [_drawn(columns, days, moment) for moment in range(moments[0], moments[1] + 1)]


def _drawn(columns, days, moment):
    """The signs of the days between two, by columns of a fact at a moment."""
    signs = []
    at = days[0]
    for first, last, told in columns:
        start = max(first, at)
        end = min(last, days[1])
        if start <= end and is_among(moment, told):
            signs.append("." * (start - at) + "#" * (end + 1 - start))
            at = end + 1
    return "".join(signs) + "." * (days[1] + 1 - at)
