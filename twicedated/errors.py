"""The errors of the office; each keeps what it was made of as attributes."""


class OfficeError(Exception):
    """Whatever the office has to say against what it was handed."""


class BadSpans(OfficeError):
    """The thing with this number, from 0 on, is no span."""

    def __init__(self, number):
        self.number = number


class BadRelations(OfficeError):
    """This name of relations is none, or has no such number."""

    def __init__(self, name):
        self.name = name


class BadFact(OfficeError):
    """This is no fact of the relations."""

    def __init__(self, fact):
        self.fact = fact


class BadChange(OfficeError):
    """This part of a change is wrong: form, word, relation, names or days."""

    def __init__(self, word):
        self.word = word


class BadMoment(OfficeError):
    """This is no moment, or no number of a change."""

    def __init__(self, moment):
        self.moment = moment


class BadEntry(OfficeError):
    """This is no entry of a journal."""

    def __init__(self, entry):
        self.entry = entry


class BadCut(OfficeError):
    """So many signs can't be left by a fall."""

    def __init__(self, cut):
        self.cut = cut


class BadText(OfficeError):
    """In this line this word, both from 0 on, can't stand."""

    def __init__(self, line, word):
        self.line = line
        self.word = word


class TooMany(OfficeError):
    """More would have to be looked at than this lets."""

    def __init__(self, most):
        self.most = most
