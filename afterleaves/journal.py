"""The journal of a house: writing it, reading it back, and taking up one that was cut or spoilt."""

from afterleaves.cursor import Cursor, line_words
from afterleaves.edittext import told_edit, write_edit
from afterleaves.errors import AfterError, BadLine, Torn
from afterleaves.formats import Format
from afterleaves.house import House
from afterleaves.labels import write_label
from afterleaves.textread import read_block
from afterleaves.texts import MOST_BLOCKS, Text
from afterleaves.textwrite import write_text

YES = "yes"
NO = "no"
# The text begins behind the line of the format and that of its length.
HEADING = 2
MOST_SENDINGS = 4
ENTRIES = ("edit", "send", "recast", "begin", "file", "lose", "heal")


def write_journal(house):
    """The lines of a house."""
    form = house.form
    near = YES if form.near else NO
    text = write_text(house.first_text)
    entries = [_entry_line(entry) for entry in house.entries]
    return (f"house {form.width} {form.height} {near}", f"text {len(text)}", *text, *entries)


def _entry_line(entry):
    if entry[0] == "edit":
        return f"edit {write_edit(entry[1])}"
    if entry[0] == "lose":
        return f"lose {entry[1]} {write_label(entry[2])}"
    return " ".join([str(part) for part in entry])


def read_journal(lines):
    """The house that the lines tell."""
    parts, blocks = _read_beginning(lines)
    entries = [_read_entry(lines, k) for k in range(HEADING + len(blocks), len(lines))]
    house = House(Format(*parts), Text(blocks))
    for entry in entries:
        house.enter(entry)
    return house


def taken_up(lines):
    """The house that the most lines from the beginning tell, and the number of these lines."""
    try:
        parts, blocks = _read_beginning(lines)
        house = House(Format(*parts), Text(blocks))
    except AfterError:
        return _torn(lines)
    taken = HEADING + len(blocks)
    while taken < len(lines) and _is_entered(house, lines, taken):
        taken = taken + 1
    return (house, taken)


def _is_entered(house, lines, number):
    """Whether the line with this number is a good entry, which is then entered."""
    try:
        house.enter(_read_entry(lines, number))
    except AfterError:
        return False
    return True


def _torn(lines):
    """Raises what is due for lines whose beginning tells no house."""
    try:
        read_journal(lines)
    except BadLine as why:
        raise Torn(why.line) from why
    except AfterError:
        raise Torn(0) from None


def _line_cursor(lines, number):
    """A cursor at the beginning of the line with this number."""
    if number >= len(lines):
        raise BadLine(number, 0)
    return Cursor(line_words(lines[number], number), number, 0)


def _read_beginning(lines):
    """The parts of the format, and the blocks of the text."""
    cursor = _line_cursor(lines, 0)
    cursor.take_one(("house",))
    width = cursor.take_integer(20, 60)
    height = cursor.take_integer(2, 12)
    near = cursor.take_one((YES, NO)) == YES
    cursor.take_end()
    cursor = _line_cursor(lines, 1)
    cursor.take_one(("text",))
    count = cursor.take_integer(1, MOST_BLOCKS)
    cursor.take_end()
    return ((width, height, near), [_read_block_line(lines, HEADING + k) for k in range(count)])


def _read_block_line(lines, number):
    """The block of the line with this number."""
    cursor = _line_cursor(lines, number)
    return read_block(cursor.words, number, 0)


def _read_entry(lines, number):
    """The entry of the line with this number."""
    cursor = _line_cursor(lines, number)
    word = cursor.take_one(ENTRIES)
    if word == "edit":
        return (word, told_edit(cursor.words, number, 1))
    entry = (word,)
    if word not in ("send", "recast"):
        entry = (word, cursor.take_name())
    if word == "file":
        entry = (*entry, cursor.take_integer(1, MOST_SENDINGS))
    if word == "lose":
        entry = (*entry, cursor.take_label())
    cursor.take_end()
    return entry
