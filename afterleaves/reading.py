"""Reading a book as a text: which rows on paper are which block, and where the tokens stand."""

from afterleaves.blocks import PLAIN_KINDS, is_pointer
from afterleaves.errors import Unknown, Unlawful
from afterleaves.lines import set_lines, token_width
from afterleaves.lists import CONTENTS_SIGN, INDEX_SIGN, head_spots
from afterleaves.printing import FOOT, Printed, token_spot
from afterleaves.ranges import read_range


class Part:
    """The rows of a block, or of an entry of a list, as they were read from the text row first on."""

    def __init__(self, first, tokens, ends, feet):
        self.first = first
        self.tokens = tokens
        self.ends = ends
        self.feet = feet

    def behind(self):
        """The index of the text row behind these."""
        return self.first + len(self.ends)


class Reading:
    """A book that reads well as a text; Unlawful if it does not.

    Its rows are the text rows of the book, each with its page and its index there; ends and feet tell of
    each of them whether a page may end behind it, and which foot rows it brings.
    """

    def __init__(self, text, form, book):
        self.text = text
        self.form = form
        self.book = book
        self.rows = _text_rows(book)
        self.parts = _read_parts(text, form, [row for page, spot, row in self.rows])
        whole = [part for parts in self.parts for part in parts]
        self.ends = tuple([end for part in whole for end in part.ends])
        self.feet = tuple([feet for part in whole for feet in part.feet])
        self.starts = tuple([self.rows[parts[0].first][:2] if parts else None for parts in self.parts])
        self.places = tuple([None if start is None else start[0] for start in self.starts])
        self._owns = {pair: self._token_place(*pair) for pair in pointer_pairs(text)}

    def own(self, k, item):
        """The place of a pointer, or of that of an entry of the contents."""
        if (k, item) not in self._owns:
            raise Unknown(item)
        return self._owns[(k, item)]

    def owners(self):
        """The pairs of block and item of all pointers, those of entries of the contents among them, in order."""
        return tuple(list(self._owns))

    def term_pages(self, word):
        """The pages on which a word stands, without those of lists."""
        pages = []
        for block, parts in zip(self.text.blocks, self.parts):
            if block[0] in PLAIN_KINDS:
                pages.extend(self._word_pages(parts[0], word))
        return tuple(sorted(set(pages)))

    def entry(self, k, item):
        """The tokens of an entry of a list, as printed."""
        if not 0 <= k < len(self.parts) or self.text.blocks[k][0] in PLAIN_KINDS:
            raise Unknown(item)
        if not 0 <= item < len(self.parts[k]):
            raise Unknown(item)
        return self.parts[k][item].tokens

    def entry_page(self, k, item):
        """The page on which an entry of a list begins."""
        return self.rows[self.parts[k][item].first][0]

    def _word_pages(self, part, word):
        return [page for page, spot, row in self.rows[part.first:part.behind()] if word in row.split(" ")]

    def _token_place(self, k, item):
        """The place of the token of a pointer: behind the number of its block, or behind the sign of its entry."""
        plain = self.text.blocks[k][0] == "para"
        part = self.parts[k][0 if plain else item]
        token = item + 1 if plain else 1
        rows = self.rows[part.first:part.behind()]
        spot, word = token_spot([row for page, at, row in rows], token)
        return (*rows[spot][:2], word)


def pointer_pairs(text):
    """The pairs of block and item of all pointers, those of entries of the contents among them, in order."""
    pairs = list(text.pointers())
    for k, block in enumerate(text.blocks):
        if block[0] == "contents":
            pairs.extend([(k, item) for item in range(len(head_spots(text)))])
    return pairs


def is_foot_row(row):
    """Whether a row is the first foot row of its page: no text row follows behind it."""
    return row.split(" ")[0] == FOOT


def _text_rows(book):
    """The text rows of a book in order, each with its page and its index there."""
    rows = []
    for leaf in book:
        for side in (0, 1):
            for spot, row in enumerate(leaf.side_rows(side)):
                if is_foot_row(row):
                    break
                rows.append(((leaf.label, side), spot, row))
    return rows


def _read_parts(text, form, rows):
    """For each block the tuple of its parts; Unlawful if the rows do not read well."""
    read = []
    first = 0
    for k in range(len(text)):
        parts = _block_parts(text, k, form, rows, first)
        if parts is None:
            raise Unlawful(0, ("block", k))
        if parts:
            first = parts[-1].behind()
        read.append(parts)
    if first < len(rows):
        raise Unlawful(0, ("more",))
    return tuple(read)


def _block_parts(text, k, form, rows, first):
    """The parts of a block whose rows begin with the row first, or None if it does not read well."""
    block = text.blocks[k]
    if block[0] == "contents":
        wanted = [text.blocks[spot][3] for spot in head_spots(text)]
    elif block[0] == "index":
        wanted = block[2]
    else:
        told = _told_tokens(block, rows, first, form.width)
        part = None if told is None else _printed_part(Printed(text, k, told, form), rows, first)
        return None if part is None else (part,)
    parts = []
    for thing in wanted:
        read = _contents_part if block[0] == "contents" else _index_part
        part = read(thing, form, rows, first)
        if part is None:
            return None
        parts.append(part)
        first = part.behind()
    return tuple(parts)


def _told_tokens(block, rows, first, width):
    """The tokens of the pointers of a plain block, or None if they are not there or have not their forms."""
    if block[0] != "para":
        return ()
    tokens = _taken_tokens(rows, first, len(block[2]) + 2)
    if not _are_due(tokens, len(block[2]) + 2, width):
        return None
    pointers = [(item, token) for item, token in zip(block[2], tokens[1:]) if is_pointer(item)]
    if not all([has_pointer_form(item, token) for item, token in pointers]):
        return None
    return tuple([token for item, token in pointers])


def _taken_tokens(rows, first, due):
    """The tokens of so many rows as hold at least the tokens that are due."""
    tokens = []
    while first < len(rows) and len(tokens) < due:
        tokens.extend(rows[first].split(" "))
        first = first + 1
    return tuple(tokens)


def _are_due(tokens, due, width):
    """Whether these are as many tokens as are due, none of them wider than the format."""
    return len(tokens) == due and all([token_width(token) <= width for token in tokens])


def has_pointer_form(item, token):
    """Whether a token has the form that is due for the pointer."""
    return read_range(token) is not None if item[0] == "span" else is_pointing(token)


def is_pointing(token):
    """Whether a token has the form N/P."""
    return token.count("/") == 1 and token[0] != "/" and token[-1] != "/"


def _printed_part(printed, rows, first):
    """The part that a printed block is, if its rows stand there, else None."""
    if tuple(rows[first:first + len(printed)]) != printed.rows:
        return None
    tokens = tuple([token for row in printed.rows for token in row.split(" ")])
    return Part(first, tokens, printed.ends, printed.feet)


def _contents_part(words, form, rows, first):
    tokens = _taken_tokens(rows, first, len(words) + 2)
    if not _are_due(tokens, len(words) + 2, form.width):
        return None
    if tokens[0] != CONTENTS_SIGN or not is_pointing(tokens[1]) or tokens[2:] != words:
        return None
    return _entry_part(tokens, form, rows, first)


def _index_part(term, form, rows, first):
    taken = rows[first:first + 1]
    for row in rows[first + 1:]:
        if read_range(row.split(" ")[0]) is None:
            break
        taken.append(row)
    tokens = tuple([token for row in taken for token in row.split(" ")])
    if tokens[:2] != (INDEX_SIGN, term) or not _are_due(tokens, len(tokens), form.width):
        return None
    if not all([read_range(token) is not None for token in tokens[2:]]):
        return None
    return _entry_part(tokens, form, rows, first)


def _entry_part(tokens, form, rows, first):
    """The part that an entry of these tokens is, if its rows stand there, else None."""
    lines = set_lines(tokens, form.width)
    if tuple(rows[first:first + len(lines)]) != lines:
        return None
    ends = (False,) * (len(lines) - 1) + (True,)
    return Part(first, tokens, ends, ((),) * len(lines))
