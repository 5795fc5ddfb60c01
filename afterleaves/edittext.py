"""Writing edits as lines, and reading them."""

from afterleaves.cursor import Cursor, line_words
from afterleaves.edits import judged_edit
from afterleaves.textread import read_block
from afterleaves.textwrite import write_block

MOST_PLACE = 24
EDITS = ("put", "drop", "swap", "move")


def write_edit(edit):
    """The line of an edit."""
    kept = judged_edit(edit)
    if kept[0] in ("put", "swap"):
        return f"{kept[0]} {kept[1]} {write_block(kept[2])}"
    return " ".join([str(part) for part in kept])


def read_edit(line):
    """The edit that a line tells."""
    return told_edit(line_words(line, 0), 0, 0)


def told_edit(words, line, first):
    """The edit that the words of a line tell from the index first on."""
    cursor = Cursor(words, line, first)
    word = cursor.take_one(EDITS)
    if word == "put":
        return (word, cursor.take_integer(0, MOST_PLACE), read_block(words, line, first + 2))
    name = cursor.take_name()
    if word == "swap":
        return (word, name, read_block(words, line, first + 2))
    edit = (word, name) if word == "drop" else (word, name, cursor.take_integer(0, MOST_PLACE))
    cursor.take_end()
    return edit
