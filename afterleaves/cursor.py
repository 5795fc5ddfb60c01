"""Going through the words of a line, and telling the first one that cannot stand where it stands."""

from afterleaves.errors import BadLine
from afterleaves.forms import is_word, read_integer
from afterleaves.labels import read_label


def line_words(line, number):
    """The words of the line that has this number; BadLine if it is no string."""
    if not isinstance(line, str):
        raise BadLine(number, 0)
    return line.split(" ")


class Cursor:
    """A place among the words of a line.

    The word at the place is judged when it is taken. Behind the last word there is none to take, and the
    place is then the number of the words: so a line that ends too early is bad at its place, too.
    """

    def __init__(self, words, line, at):
        self.words = words
        self.line = line
        self.at = at

    def more(self):
        """Whether there is a word to take."""
        return self.at < len(self.words)

    def look(self):
        """The word that comes next; BadLine if there is none."""
        if not self.more():
            raise BadLine(self.line, self.at)
        return self.words[self.at]

    def take(self, worth):
        """Takes the word as what it was found to be worth; BadLine if that is None."""
        if worth is None:
            raise BadLine(self.line, self.at)
        self.at = self.at + 1
        return worth

    def take_name(self):
        """Takes a name or word."""
        word = self.look()
        return self.take(word if is_word(word) else None)

    def take_one(self, words):
        """Takes one of these words."""
        word = self.look()
        return self.take(word if word in words else None)

    def take_integer(self, least, most):
        """Takes an integer from the least to the most one."""
        return self.take(read_integer(self.look(), least, most))

    def take_label(self):
        """Takes a label as it is written."""
        return self.take(read_label(self.look()))

    def take_names(self, least, most):
        """Takes all words that are left, so many names or words."""
        taken = []
        while len(taken) < least or (self.more() and len(taken) < most):
            taken.append(self.take_name())
        self.take_end()
        return tuple(taken)

    def take_end(self):
        """Sees to it that no word is left."""
        if self.more():
            raise BadLine(self.line, self.at)
