"""Archives: the editions of a text, and the sendings that lead from each to the next one."""

from afterleaves.books import Book
from afterleaves.errors import BadArchive, Unknown, Unlawful
from afterleaves.formats import Format
from afterleaves.forms import is_sized
from afterleaves.looker import Looker
from afterleaves.packets import packet_between
from afterleaves.texts import Text

MOST_EDITIONS = 5


class Archive:
    """Texts and as many books, each lawful for its text."""

    def __init__(self, form, texts, books):
        if not isinstance(form, Format):
            raise BadArchive("format")
        if not is_sized(texts, 1, MOST_EDITIONS) or not all([isinstance(text, Text) for text in texts]):
            raise BadArchive("texts")
        if not is_sized(books, len(texts), len(texts)) or not all([isinstance(book, Book) for book in books]):
            raise BadArchive("books")
        _judge_books(form, texts, books)
        self.form = form
        self.texts = tuple(texts)
        self.books = tuple(books)
        self._packets = tuple([packet_between(old, new) for old, new in zip(self.books, self.books[1:])])

    @property
    def newest(self):
        """The book of the last edition."""
        return self.books[-1]

    def __len__(self):
        return len(self._packets)

    def packet(self, k):
        """The sending k; they are counted from 1."""
        if not 1 <= k <= len(self._packets):
            raise Unknown(k)
        return self._packets[k - 1]

    def binder(self, row):
        """The binder behind a row of sendings."""
        binder = self.books[0]
        for packet in [self.packet(k) for k in row]:
            binder = packet(binder)
        return binder


def _judge_books(form, texts, books):
    looker = Looker(form)
    for k, (text, book) in enumerate(zip(texts, books)):
        verdict = looker(text, book)
        if not verdict:
            raise Unlawful(k, verdict.fault)
    if any([leaf.pen for book in books for leaf in book]):
        raise BadArchive("pen")
