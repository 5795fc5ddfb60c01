"""Renewals: the successors of a book that cost the least."""

from afterleaves.bounds import NEVER
from afterleaves.books import Book, is_kept
from afterleaves.errors import NoBook, TooMany
from afterleaves.layout import Layout
from afterleaves.listing import Listing
from afterleaves.making import made_book
from afterleaves.search import Search
from afterleaves.shapes import ShapeStore
from afterleaves.successors import judged_price, price_of, strokes_of

MOST_BLOCKS = 12
MOST_POINTERS = 4
MOST_OLD = 12


class Renewal:
    """A successor of an old book with the least price; a stroke of the price None may not be made."""

    def __init__(self, old, text, form, *, leaf=1, stroke=None):
        judge_sizes(old, text)
        judged_price(leaf, "leaf")
        if stroke is not None:
            judged_price(stroke, "stroke")
        self.book = renewed(old, text, ShapeStore(form), leaf, stroke)
        self.price = price_of(old, self.book, leaf=leaf, stroke=stroke or 1)
        self._kept = tuple([one.label for one in self.book if is_kept(old, one)])
        self._sent = tuple([one.label for one in self.book if not is_kept(old, one)])
        self._gone = tuple([label for label in old.labels if label not in self._kept])
        self._strokes = strokes_of(old, self.book)

    @property
    def kept(self):
        """The labels of the leaves that are kept."""
        return self._kept

    @property
    def sent(self):
        """The labels of the new leaves."""
        return self._sent

    @property
    def gone(self):
        """The labels of the leaves of the old book that are not kept."""
        return self._gone

    @property
    def strokes(self):
        """The strokes that are made on kept leaves."""
        return self._strokes


def renewed(old, text, store, leaf, stroke):
    """The book of a renewal; NoBook if there is none."""
    layout = Layout(text, store, old)
    book = cheapest(Search(layout, Listing(layout), leaf, stroke, ()))
    if book is None:
        raise NoBook()
    return book


def judge_text(text):
    """TooMany if the text is too large for a search."""
    if len(text) > MOST_BLOCKS:
        raise TooMany("block")
    if len(text.pointers()) > MOST_POINTERS:
        raise TooMany("pointer")


def judge_sizes(old, text):
    """TooMany if the text or the old book is too large for a search."""
    judge_text(text)
    if len(old) > MOST_OLD:
        raise TooMany("leaf")


def cheapest(search):
    """The book of the cheapest way of a search, or None."""
    search.begin(True, NEVER)
    way = search.next_way()
    if search.barred if way is None else search.cramped and way.cost > search.reached:
        search.begin(False, NEVER if way is None else way.cost)
        way = search.next_way() or way
    return None if way is None else made_book(search.layout, way)


def any_book(search):
    """The book of some way of a search, or None if there is none."""
    search.begin(True, NEVER)
    way = search.next_way()
    if way is None and search.barred:
        search.begin(False, NEVER)
        way = search.next_way()
    return None if way is None else made_book(search.layout, way)


def fresh_book(text, form):
    """A lawful plain book of a text with the fewest leaves."""
    return Renewal(Book(()), text, form).book
