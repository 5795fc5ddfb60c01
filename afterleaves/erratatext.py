"""Writing lists of corrections as lines, and reading them."""

from afterleaves.cursor import Cursor, line_words
from afterleaves.errata import Errata
from afterleaves.labels import read_page, write_page
from afterleaves.leaves import MOST_ROWS, MOST_TOKENS, is_token


def write_errata(errata):
    """The lines of a list of corrections."""
    return tuple([f"on {write_page(page)} {row} {word} for {old} read {new}" for page, row, word, old, new in errata])


def read_errata(lines):
    """The list of corrections that the lines tell."""
    return Errata([_read_correction(Cursor(line_words(line, k), k, 0)) for k, line in enumerate(lines)])


def _read_correction(cursor):
    cursor.take_one(("on",))
    page = cursor.take(read_page(cursor.look()))
    row = cursor.take_integer(0, MOST_ROWS - 1)
    word = cursor.take_integer(0, MOST_TOKENS - 1)
    cursor.take_one(("for",))
    old = _take_token(cursor)
    cursor.take_one(("read",))
    new = _take_token(cursor)
    cursor.take_end()
    return (page, row, word, old, new)


def _take_token(cursor):
    word = cursor.look()
    return cursor.take(word if is_token(word) else None)
