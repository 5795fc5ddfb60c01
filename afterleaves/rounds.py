"""Setting a text in rounds, each with the tokens that the book of the round ahead asks for."""

from afterleaves.errors import TooMany
from afterleaves.filling import set_book
from afterleaves.labels import write_page
from afterleaves.looker import preferred_token
from afterleaves.printing import see_token
from afterleaves.reading import Reading

MOST_ROUNDS = 40


class Rounds:
    """The different books of the rounds of a text, and how many of them follow each other for ever."""

    def __init__(self, text, form, first=((1,), 0)):
        books = []
        book = set_book(text, _first_tokens(text, first), form)
        while book not in books:
            if len(books) == MOST_ROUNDS:
                raise TooMany("round")
            books.append(book)
            book = next_round(text, form, book)
        self.books = tuple(books)
        self.ring = len(books) - books.index(book)

    @property
    def rests(self):
        """Whether the rounds come to rest."""
        return self.ring == 1

    def __iter__(self):
        return iter(self.books)

    def __len__(self):
        return len(self.books)


def next_round(text, form, book):
    """The book of the round behind this book."""
    reading = Reading(text, form, book)
    return set_book(text, [preferred_token(reading, k, item) for k, item in text.pointers()], form)


def _first_tokens(text, page):
    """The tokens of all pointers in the first round, when everything stands on one page."""
    word = write_page(page)
    tokens = []
    for k, item in text.pointers():
        targets = text.targets(k, item)
        tokens.append(word if len(targets) == 2 else see_token(text, targets[0], word))
    return tokens
