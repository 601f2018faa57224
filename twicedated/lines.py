"""Lines that are read word by word."""

from twicedated.errors import BadText

END_OF_LINE = "\n"


class Line:
    """The words of a line that is read, one behind the other."""

    def __init__(self, number, text):
        self.number = number
        self.words = text.split(" ")
        self.place = 0

    def is_over(self):
        """Whether no word is left."""
        return self.place == len(self.words)

    def word(self):
        """The next word; BadText if it is lacking."""
        if self.is_over():
            raise BadText(self.number, self.place)
        self.place += 1
        return self.words[self.place - 1]

    def check(self, is_right):
        """BadText at the word that was read last unless it can stand there."""
        if not is_right:
            raise BadText(self.number, self.place - 1)

    def check_over(self):
        """BadText if a word is left."""
        if not self.is_over():
            raise BadText(self.number, self.place)


def lines_of(text):
    """The list of the lines of a text; the empty one has none."""
    return [Line(number, line) for number, line in enumerate(text.split(END_OF_LINE))] if text else []
