"""Reading texts from lines."""

from afterleaves.blocks import kept_item
from afterleaves.cursor import Cursor, line_words
from afterleaves.errors import BadLine
from afterleaves.forms import is_word
from afterleaves.texts import Text

KINDS = ("head", "para", "fig", "contents", "index")


def read_text(lines):
    """The text that the lines tell."""
    blocks = []
    for k, line in enumerate(lines):
        blocks.append(read_block(line_words(line, k), k, 0))
    if not blocks:
        raise BadLine(0, 0)
    return Text(blocks)


def read_block(words, line, first):
    """The block that the words of a line tell from the index first on."""
    cursor = Cursor(words, line, first)
    kind = cursor.take_one(KINDS)
    name = cursor.take_name()
    if kind == "head":
        return (kind, name, cursor.take_integer(1, 2), cursor.take_names(1, 6))
    if kind == "fig":
        return (kind, name, cursor.take_integer(1, 6), cursor.take_names(0, 4))
    if kind == "para":
        return (kind, name, _read_items(cursor))
    if kind == "index":
        return (kind, name, _read_terms(cursor))
    cursor.take_end()
    return (kind, name)


def _read_items(cursor):
    items = [cursor.take(_read_item(cursor.look()))]
    while cursor.more() and len(items) < 16:
        items.append(cursor.take(_read_item(cursor.look())))
    cursor.take_end()
    return tuple(items)


def _read_item(word):
    """The item that a word writes, or None."""
    parts = word.split(":")
    if len(parts) == 1:
        return kept_item(word)
    if parts[0] == "note":
        return kept_item(("note", parts[1:]))
    return kept_item(parts)


def _read_terms(cursor):
    terms = [cursor.take_name()]
    while cursor.more() and len(terms) < 8:
        term = cursor.look()
        terms.append(cursor.take(term if is_word(term) and term > terms[-1] else None))
    cursor.take_end()
    return tuple(terms)
