"""The entries of the list of contents and of the index."""

from afterleaves.labels import write_page
from afterleaves.printing import see_token
from afterleaves.ranges import preferred_ranges, write_range

CONTENTS_SIGN = "-"
INDEX_SIGN = "+"


def head_spots(text):
    """The indexes of the heads of a text."""
    return [k for k, block in enumerate(text.blocks) if block[0] == "head"]


def contents_entries(text, places):
    """The tokens of each entry of the contents, for the pages of the heads."""
    return tuple([(CONTENTS_SIGN, see_token(text, k, write_page(page)), *text.blocks[k][3])
                  for k, page in zip(head_spots(text), places)])


def index_entry(term, book, pages):
    """The tokens of an entry of the index, for the pages on which the term stands."""
    ranges = [write_range(pair) for pair in preferred_ranges(book, pages)]
    return (INDEX_SIGN, term, *ranges)
