"""Writing packets as lines, and reading them."""

from afterleaves.cursor import Cursor, line_words
from afterleaves.errors import BadLine
from afterleaves.labels import write_label
from afterleaves.leaves import LONGEST_ROW, MOST_ROWS, MOST_TOKENS, Leaf, is_token
from afterleaves.packets import Packet

NO_BOUND = "-"


def write_packet(packet):
    """The lines of a packet."""
    lines = []
    for low, high, leaves in packet.stretches:
        lines.append(f"clear {_bound_word(low)} {_bound_word(high)}")
        for leaf in leaves:
            lines.append(f"leaf {write_label(leaf.label)} {len(leaf.front)} {len(leaf.back)}")
            lines.extend(list(leaf.front + leaf.back))
    return tuple(lines)


def _bound_word(bound):
    return NO_BOUND if bound is None else write_label(bound)


def read_packet(lines):
    """The packet that the lines tell."""
    stretches = []
    at = 0
    while at < len(lines):
        cursor = Cursor(line_words(lines[at], at), at, 0)
        # A leaf can only come in a stretch.
        if cursor.take_one(("clear", "leaf") if stretches else ("clear",)) == "clear":
            low = _take_bound(cursor)
            stretches.append((low, _take_bound(cursor), []))
            cursor.take_end()
            at = at + 1
        else:
            leaf = _read_leaf(cursor, lines, at + 1)
            stretches[-1][2].append(leaf)
            at = at + 1 + len(leaf.front) + len(leaf.back)
    return Packet(stretches)


def _take_bound(cursor):
    """Takes a label, or the sign for none."""
    if cursor.look() == NO_BOUND:
        cursor.take(NO_BOUND)
        return None
    return cursor.take_label()


def _read_leaf(cursor, lines, first):
    """The leaf of a line whose first word is taken, and of the lines of its rows from the line first on."""
    label = cursor.take_label()
    front = cursor.take_integer(1, MOST_ROWS)
    back = cursor.take_integer(0, MOST_ROWS)
    cursor.take_end()
    rows = [_read_row(lines, first + k) for k in range(front + back)]
    return Leaf(label, rows[:front], rows[front:])


def _read_row(lines, number):
    """The row on paper that the line with this number is."""
    if number >= len(lines):
        raise BadLine(number, 0)
    for word, token in enumerate(line_words(lines[number], number)):
        if word == MOST_TOKENS or not is_token(token):
            raise BadLine(number, word)
    if len(lines[number]) > LONGEST_ROW:
        raise BadLine(number, 0)
    return lines[number]
