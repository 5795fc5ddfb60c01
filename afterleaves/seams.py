"""What does not fit in a binder that is read as a whole, by paper alone."""

from afterleaves.following import follow
from afterleaves.forms import is_word, read_integer
from afterleaves.lists import CONTENTS_SIGN, INDEX_SIGN
from afterleaves.printing import DRAWN, STOP
from afterleaves.ranges import ranges_true, read_range
from afterleaves.reading import is_pointing

MOST_NUMBER = 9999
CHAPTER = ""
SECTION = "."
PARA = "p"
FIGURE = "f"
# What can be behind a row, beside the signs of what it begins or goes on with.
NOTHING = "nothing"
CLOSED = "closed"
LOOSE = "loose"


class Row:
    """A text row of a binder: its place (page, row), the tokens that are said, and the number they begin with.

    Unit is the sign of the block or entry to which it belongs, that of drawn rows, or None.
    """

    def __init__(self, place, tokens):
        self.place = place
        self.tokens = tokens
        self.number = read_number(tokens[0])
        self.unit = None

    def sign(self):
        """The sign of what the row begins, or that of drawn rows; None for a row that goes on with something."""
        if self.number is not None:
            return self.number[1]
        return self.tokens[0] if self.tokens[0] in (CONTENTS_SIGN, INDEX_SIGN, DRAWN) else None

    def is_of_entry(self):
        """Whether the row belongs to an entry of a list."""
        return self.unit in (CONTENTS_SIGN, INDEX_SIGN)


def read_number(token):
    """The number of a block that a token writes, a tuple (chapter, sign, count), or None; a chapter has the count 0."""
    for sign in (SECTION, PARA, FIGURE):
        first, middle, last = token.partition(sign)
        if middle:
            chapter = read_integer(first, 0, MOST_NUMBER)
            count = read_integer(last, 0, MOST_NUMBER)
            return None if chapter is None or count is None else (chapter, sign, count)
    chapter = read_integer(token, 0, MOST_NUMBER)
    return None if chapter is None else (chapter, CHAPTER, 0)


class Whole:
    """A binder that is read as a whole.

    Units are the lists of rows that belong together: one that begins a block or entry, and those that go on with
    it; each drawn row is one, too. Unfit are the rows that may not come where they come.
    """

    def __init__(self, binder):
        self.book = binder
        self.rows = [Row((page, spot), tokens) for page in binder.pages()
                     for spot, tokens in enumerate(binder.text_rows(page))]
        self.units = []
        self.unfit = []
        self._behind = NOTHING
        for row in self.rows:
            self._take(row, row.sign())
        if self._behind == PARA:
            self.unfit.append(self.rows[-1])

    def _take(self, row, sign):
        """Takes the next row."""
        if sign is None:
            self._go_on(row)
            return
        if self._behind == PARA or (sign == DRAWN and self._behind not in (FIGURE, DRAWN)):
            self.unfit.append(row)
        self._behind = sign
        row.unit = sign
        self.units.append([row])
        self._close(row)

    def _go_on(self, row):
        """Takes the next row, which goes on with something."""
        if self._behind in (NOTHING, CLOSED, DRAWN):
            self.unfit.append(row)
            self._behind = LOOSE
        if self._behind != LOOSE:
            row.unit = self._behind
            self.units[-1].append(row)
            self._close(row)

    def _close(self, row):
        """Notes whether a row closes a paragraph."""
        if row.unit == PARA and row.tokens[-1] == STOP:
            self._behind = CLOSED

    def units_of(self, signs):
        """The units that begin with one of the signs."""
        return [unit for unit in self.units if unit[0].unit in signs]


def seams(binder):
    """The seams of a binder, each a tuple (word, page, row)."""
    whole = Whole(binder)
    found = []
    for word, seek in (("row", _row_seams), ("number", _number_seams), ("pointer", _pointer_seams),
                       ("contents", _contents_seams), ("index", _index_seams)):
        found.extend([(word, *place) for place in sorted(set([row.place for row in seek(whole)]))])
    return tuple(found)


def is_seamless(binder):
    """Whether a binder has no seams."""
    whole = Whole(binder)
    for seek in (_row_seams, _number_seams, _contents_seams, _pointer_seams, _index_seams):
        if seek(whole):
            return False
    return True


def _row_seams(whole):
    """The rows that may not come where they come."""
    return whole.unfit


def _number_seams(whole):
    """The rows whose numbers do not count on."""
    found = []
    chapter = 0
    counts = {}
    for row in whole.rows:
        if row.number is None:
            continue
        number, sign, count = row.number
        expected = (chapter + 1, 0) if sign == CHAPTER else (chapter, counts.get(sign, 0) + 1)
        if (number, count) != expected:
            found.append(row)
        if sign == CHAPTER or number != chapter:
            counts = {}
        chapter = number
        counts[sign] = count
    return found


def _pointer_seams(whole):
    """The rows with a pointer that is lost, or with a page that is not there."""
    return [row for row in whole.rows
            if any([_leads_nowhere(whole.book, row, word) for word in range(len(row.tokens))])]


def _leads_nowhere(binder, row, word):
    """Whether the token at a place of a row is a lost pointer, or tells a page that is not there."""
    token = row.tokens[word]
    if is_pointing(token):
        return follow(binder, (*row.place, word))[0] == "lost"
    # The pages of entries of an index are judged with their ranges.
    pages = None if row.unit == INDEX_SIGN else read_range(token)
    return pages is not None and any([page[0] not in binder for page in pages])


def _unit_tokens(unit):
    """The tokens of the rows of a unit."""
    return [token for row in unit for token in row.tokens]


def _contents_seams(whole):
    """The first rows of entries of the contents that are not those of the heads."""
    heads = [_unit_tokens(unit) for unit in whole.units_of((CHAPTER, SECTION))]
    entries = whole.units_of((CONTENTS_SIGN,))
    found = [unit[0] for unit in entries[len(heads):]]
    for unit, head in zip(entries, heads):
        if not _is_entry_of(_unit_tokens(unit), head):
            found.append(unit[0])
    if 0 < len(entries) < len(heads):
        found.append(entries[-1][0])
    return found


def _is_entry_of(tokens, head):
    """Whether an entry tells the number and the words of a head."""
    if len(tokens) < 2 or not is_pointing(tokens[1]):
        return False
    return tokens[1].split("/")[0] == head[0] and tokens[2:] == head[1:]


def _index_seams(whole):
    """The first rows of entries of the index whose ranges are not true."""
    entries = whole.units_of((INDEX_SIGN,))
    if not entries:
        return []
    pages = {}
    for row in whole.rows:
        if not row.is_of_entry():
            for token in row.tokens:
                shown = pages.setdefault(token, {})
                shown[row.place[0]] = True
    return [unit[0] for unit in entries if not _is_true_entry(whole.book, _unit_tokens(unit), pages)]


def _is_true_entry(binder, tokens, pages):
    """Whether an entry of the index has a term, and true ranges; pages tells of each token where it stands."""
    pairs = [read_range(token) for token in tokens[2:]]
    if len(tokens) < 2 or not is_word(tokens[1]) or None in pairs:
        return False
    return ranges_true(binder, pairs, tuple(list(pages.get(tokens[1], {}))))
