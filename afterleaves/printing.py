"""What is printed of headings, paragraphs and figures."""

from afterleaves.blocks import is_note, is_pointer
from afterleaves.labels import write_page
from afterleaves.lines import set_lines

MARK = "(*)"
FOOT = "*"
STOP = "."
DRAWN = ":"


class Printed:
    """The text rows of a head, paragraph or figure, the foot rows they bring, and where a page may end."""

    def __init__(self, text, k, told, form):
        block = text.blocks[k]
        number = text.numbers[k]
        if block[0] == "para":
            self.rows = set_lines(_para_tokens(number, block[2], told), form.width)
            self.feet = _para_feet(block[2], self.rows, form.width)
        else:
            self.rows = set_lines((number, *block[3]), form.width) + _drawn_rows(block)
            self.feet = ((),) * len(self.rows)
        self.ends = _row_ends(block[0], len(self.rows))

    @property
    def heights(self):
        """The height of each text row."""
        return tuple([1 + len(feet) for feet in self.feet])

    def __len__(self):
        return len(self.rows)


def _drawn_rows(block):
    return (DRAWN,) * block[2] if block[0] == "fig" else ()


def _para_tokens(number, items, told):
    """The tokens of a paragraph, those of its pointers as they are told."""
    tokens = [number]
    pointers = 0
    for item in items:
        if is_pointer(item):
            tokens.append(told[pointers])
            pointers = pointers + 1
        else:
            tokens.append(MARK if is_note(item) else item)
    return (*tokens, STOP)


def _para_feet(items, rows, width):
    """For each row of a paragraph the foot rows that the marks in it bring."""
    # The number stands ahead of the items: with something in its place each item has the index of its token.
    printed = ("", *items, STOP)
    feet = []
    first = 0
    for row in rows:
        behind = first + len(row.split(" "))
        brought = []
        for item in printed[first:behind]:
            if is_note(item):
                brought.extend(list(set_lines((FOOT, *item[1]), width)))
        feet.append(tuple(brought))
        first = behind
    return tuple(feet)


def _row_ends(kind, count):
    """For each of so many rows of a block whether a page may end behind it."""
    if kind == "para":
        return tuple([k == count or (k >= 2 and count - k >= 2) for k in range(1, count + 1)])
    return tuple([kind == "fig" and k == count for k in range(1, count + 1)])


def see_token(text, target, word):
    """The token of a `see` or `next` for the block with the index target and a place word."""
    return f"{text.numbers[target]}/{word}"


def span_token(first, last):
    """The token of a span, or of a range, between two pages."""
    begin = write_page(first)
    end = write_page(last)
    return begin if begin == end else f"{begin}-{end}"


def entry_rows(tokens, form):
    """The rows of an entry of a list of contents or an index."""
    return set_lines(tokens, form.width)


def token_spot(rows, token):
    """The row, and the place in it, of the token with this index of all that stand in the rows."""
    for k, row in enumerate(rows):
        count = len(row.split(" "))
        if token < count:
            return (k, token)
        token = token - count
    return None
