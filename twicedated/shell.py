"""The shell: scripts that tell relations, rules and questions, and then what is done, line by line."""

from twicedated.askerrors import BadQuestion
from twicedated.asktexts import answers_text, atom_of, test_of, variable_of
from twicedated.books import change_fault
from twicedated.booktexts import read_relation
from twicedated.errors import BadText
from twicedated.lines import lines_of
from twicedated.offices import Office
from twicedated.questions import LONGEST_HEAD, MOST_ATOMS, Clause, Question
from twicedated.relations import is_name
from twicedated.touching import touching
from twicedated.within import never, within
from twicedated.words import change_by, number_by

GO = "go"
ANY_NAME = "-"
# So great that nothing is let go.
MOST = 1000000000


class Setup:
    """What the lines ahead of the first line `go` tell."""

    def __init__(self):
        self.relations = {}
        self.rules = []
        # The head, the list of clauses and that of unless of each question.
        self.questions = []

    def office(self):
        """The office of all that was told; BadQuestion."""
        questions = [Question(head, tuple(clauses), tuple(unless)) for head, clauses, unless in self.questions]
        return Office(self.relations, tuple(self.rules), questions, MOST)


def _read_clause(line):
    """The clause that all next words of a line tell; BadText."""
    atoms = []
    tests = []
    while not line.is_over():
        word = line.word()
        atom = atom_of(word)
        if atom is not None and len(atoms) < MOST_ATOMS and not tests:
            atoms.append(atom)
        else:
            test = test_of(word, [day[1] for _, _, day in atoms if day[0] == "when"])
            line.check(test is not None and len(atoms) > 0)
            tests.append(test)
    try:
        return Clause(tuple(atoms), tuple(tests))
    except BadQuestion:
        raise BadText(line.number, 1) from None


def _put_relation(line, setup):
    """A line `relation NAME N`; BadText."""
    name, many = read_relation(line, setup.relations)
    setup.relations[name] = many


def _put_rule(line, setup):
    """A line `never CLAUSE`; BadText."""
    setup.rules.append(_read_clause(line))


def _put_question(line, setup):
    """A line `question ?p ..`, of a head; BadText."""
    head = []
    while not line.is_over():
        variable = variable_of(line.word())
        line.check(variable is not None and len(head) < LONGEST_HEAD)
        head.append(("any", variable))
    setup.questions.append((tuple(head), [], []))


def _put_clause(line, setup):
    """A line `or CLAUSE`, of the last question; BadText."""
    line.check(len(setup.questions) > 0)
    setup.questions[-1][1].append(_read_clause(line))


def _put_unless(line, setup):
    """A line `unless CLAUSE`, of the last question; BadText."""
    line.check(len(setup.questions) > 0)
    setup.questions[-1][2].append(_read_clause(line))


def _read_number(line, most):
    """The number that the next word of a line tells, at most so great a one; BadText."""
    number = number_by(line.word())
    line.check(number is not None and number <= most)
    return number


def _read_day(line):
    """The day that the next word of a line tells; BadText."""
    number = number_by(line.word())
    line.check(number is not None)
    return number


def _read_question(line, office):
    """The number of a question that the next word of a line tells; BadText."""
    return _read_number(line, len(office.questions) - 1)


def _do_change(line, office):
    """What a line `set ..` or `clear ..` brings; BadText."""
    change = change_by(line.words)
    if change_fault(office.history.relations, change) is not None:
        raise BadText(line.number, 0)
    letters = office.change(change)
    if letters is None:
        return ["refused"]
    lines = [f"letter {sent} {who} {number} {now} {answers_text(found)}" for sent, who, number, now, found in letters]
    return [*lines, f"moment {office.history.last_moment()}"]


def _do_ask(line, office):
    """What a line `ask WHO QUESTION DAY` brings; BadText."""
    who = line.word()
    line.check(is_name(who))
    number = _read_question(line, office)
    now = _read_day(line)
    line.check_over()
    return [f"told {answers_text(office.ask(who, number, now))}"]


def _do_then(line, office):
    """What a line `then MOMENT QUESTION DAY` brings; BadText."""
    moment = _read_number(line, office.history.last_moment())
    number = _read_question(line, office)
    now = _read_day(line)
    line.check_over()
    return [f"then {answers_text(office.answers_at(number, now, moment))}"]


def _read_kind_names(line, many):
    """The tuple of so many names, None for any name, that the next word of a line tells; BadText."""
    names = [None if name == ANY_NAME else name for name in line.word().split(",")]
    line.check(len(names) == many and all([name is None or is_name(name) for name in names]))
    return tuple(names)


def _do_touches(line, office):
    """What a line `touches QUESTION RELATION NAMES FIRST LAST` brings; BadText."""
    question = office.questions[_read_question(line, office)]
    relation = line.word()
    line.check(relation in office.history.relations)
    names = _read_kind_names(line, office.history.relations[relation])
    first = _read_day(line)
    last = _read_day(line)
    line.check(first <= last)
    line.check_over()
    found = touching(question, office.rules, (relation, names, first, last), MOST)
    return ["touches" if found else "never touches"]


def _do_within(line, office):
    """What a line `within QUESTION QUESTION` brings; BadText."""
    one = office.questions[_read_question(line, office)]
    other = office.questions[_read_question(line, office)]
    line.check(len(one.head) == len(other.head))
    line.check_over()
    return ["within" if within(one, other, office.rules, MOST) else "not within"]


def _do_empty(line, office):
    """What a line `empty QUESTION` brings; BadText."""
    question = office.questions[_read_question(line, office)]
    line.check_over()
    return ["no answer ever" if never(question, office.rules, MOST) else "some answer"]


AHEAD = {"relation": _put_relation, "never": _put_rule, "question": _put_question, "or": _put_clause,
         "unless": _put_unless}
BEHIND = {"set": _do_change, "clear": _do_change, "ask": _do_ask, "then": _do_then, "touches": _do_touches,
          "within": _do_within, "empty": _do_empty}


def _office_at(line, setup):
    """The office that a line `go` opens; BadText."""
    line.check_over()
    try:
        return setup.office()
    except BadQuestion:
        raise BadText(line.number, 0) from None


def run_script(text):
    """The list of the lines that a script brings; BadText."""
    lines = lines_of(text)
    setup = Setup()
    office = None
    came = []
    for line in lines:
        word = line.word()
        if office is None and word == GO:
            office = _office_at(line, setup)
            continue
        line.check(word in AHEAD if office is None else word in BEHIND)
        if office is None:
            put = AHEAD[word]
            put(line, setup)
        else:
            do = BEHIND[word]
            came.extend(do(line, office))
    if office is None:
        raise BadText(len(lines), 0)
    return came
