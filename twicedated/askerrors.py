"""The errors of questions, and of those who ask; each keeps what it was made of as attributes."""

from twicedated.errors import OfficeError


class BadTerm(OfficeError):
    """This is no term of the sort that must stand there."""

    def __init__(self, term):
        self.term = term


class BadQuestion(OfficeError):
    """This part of a clause, a question, rules or a kind is wrong."""

    def __init__(self, word):
        self.word = word


class BadAsk(OfficeError):
    """This can't be asked of an office."""

    def __init__(self, thing):
        self.thing = thing
