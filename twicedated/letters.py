"""Letters on their ways: whatever is lost, doubled or late, each receiver takes each letter once, in their order."""

from twicedated.errors import BadEntry
from twicedated.relations import is_integer


class Post:
    """Sends the settled letters of a journal, until it hears that they are taken."""

    def __init__(self, journal):
        self.journal = journal
        self.heard = {}

    def waiting(self):
        """The list of the (receiver, number, names) of all letters of which it isn't heard that they are taken."""
        found = []
        letters = self.journal.letters()
        for receiver in letters:
            for number, names in enumerate(letters[receiver], start=1):
                if number > self.heard.get(receiver, 0):
                    found.append((receiver, number, names))
        return found

    def hear(self, receiver, number):
        """So many letters are taken by a receiver; BadEntry."""
        many = len(self.journal.letters().get(receiver, ()))
        if not is_integer(number) or not 0 <= number <= many:
            raise BadEntry((receiver, number))
        self.heard[receiver] = max(number, self.heard.get(receiver, 0))


class Receiver:
    """Takes letters by their numbers; those that come ahead of their time wait here."""

    def __init__(self):
        self.taken = []
        self.early = {}

    def get(self, number, names):
        """A letter comes; how many are taken then."""
        if number > len(self.taken):
            self.early.setdefault(number, tuple(names))
        while len(self.taken) + 1 in self.early:
            self.taken.append(self.early.pop(len(self.taken) + 1))
        return len(self.taken)
