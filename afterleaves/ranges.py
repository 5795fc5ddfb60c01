"""Ranges of pages: what they tell, whether they are true, and which are preferred."""

from afterleaves.errors import BadPages
from afterleaves.forms import is_tuple
from afterleaves.labels import kept_page, read_page
from afterleaves.printing import span_token


def preferred_ranges(book, pages):
    """The fewest ranges that are true for the pages, as pairs of pages."""
    shown = shown_pages(book)
    spots = {page: k for k, page in enumerate(shown)}
    ranges = []
    for page in judged_pages(book, pages):
        if ranges and spots[ranges[-1][1]] + 1 == spots[page]:
            ranges[-1] = (ranges[-1][0], page)
        else:
            ranges.append((page, page))
    return tuple(ranges)


def judged_pages(book, pages):
    """The pages as tuples; BadPages if they are no ascending tuple of pages of the book that have rows."""
    if not is_tuple(pages):
        raise BadPages()
    shown = shown_pages(book)
    kept = [kept_page(page) for page in pages]
    if not all([page in shown for page in kept]):
        raise BadPages()
    if not all([one < other for one, other in zip(kept, kept[1:])]):
        raise BadPages()
    return tuple(kept)


def shown_pages(book):
    """The pages of a book that have rows, in order."""
    return tuple([(leaf.label, side) for leaf in book for side in (0, 1) if leaf.side_rows(side)])


def ranges_true(book, pairs, pages):
    """Whether the pairs are good ranges of the book that tell just these pages."""
    if not all([_is_range(book, pair) for pair in pairs]):
        return False
    return told_pages(book, pairs) == tuple([kept_page(page) for page in pages])


def told_pages(book, pairs):
    """The pages with rows that the pairs tell together."""
    ranges = [(kept_page(first), kept_page(last)) for first, last in pairs if _is_range(book, (first, last))]
    return tuple([page for page in shown_pages(book)
                  if any([begin <= page <= end for begin, end in ranges])])


def _is_range(book, pair):
    """Whether both pages are there and the second one is not ahead of the first."""
    first, last = [kept_page(page) for page in pair]
    pages = book.pages()
    return first in pages and last in pages and first <= last


def write_range(pair):
    """The token of a range."""
    first, last = pair
    return span_token(first, last)


def read_range(token):
    """The pair of pages that a token of the form of a range tells, or None."""
    ends = [read_page(word) for word in token.split("-")]
    return None if len(ends) > 2 or None in ends else (ends[0], ends[-1])
