"""The lists behind the blocks of a text: their entries as units, and the old leaves that may be kept for them."""

from afterleaves.lines import row_ends, set_lines, token_width
from afterleaves.lists import CONTENTS_SIGN, INDEX_SIGN, head_spots
from afterleaves.printing import see_token, token_spot
from afterleaves.ranges import read_range
from afterleaves.labels import read_page
from afterleaves.reading import is_pointing

DIGIT = "0"


class ContentsFit:
    """An old leaf that fits as a leaf of the contents from the unit first on.

    It tells for each head, by its block, on which page the leaf says it to be, or None if it says something
    that is true nowhere.
    """

    def __init__(self, j, first, middle, after, told):
        self.j = j
        self.first = first
        self.middle = middle
        self.after = after
        self.told = told


class IndexFit:
    """An old leaf that fits as a leaf of the index: its terms as bits, and the pairs of pages of their ranges."""

    def __init__(self, j, first, middle, after, entries):
        self.j = j
        self.first = first
        self.middle = middle
        self.after = after
        self.entries = entries
        self.care = sum([1 << bit for bit, pairs in entries])
        self.ends = sorted(set([page[0] for bit, pairs in entries for pair in pairs for page in pair]))
        self._masks = {}

    def told_on(self, page):
        """The terms that the leaf tells to stand on a page, as bits."""
        if page not in self._masks:
            self._masks[page] = sum([1 << bit for bit, pairs in self.entries
                                     if any([first <= page <= last for first, last in pairs])])
        return self._masks[page]

    def passes_end(self, low, high):
        """Whether a range begins or ends with a leaf between two labels that follow each other; None is no bound."""
        return any([(low is None or label > low) and (high is None or label < high) for label in self.ends])


class Listing:
    """The units of the lists: the entries of the contents, then those of the index."""

    def __init__(self, layout):
        self.layout = layout
        text = layout.text
        kinds = [block[0] for block in text.blocks]
        self.heads = head_spots(text) if "contents" in kinds else []
        self.contents_first = layout.body
        self.index_first = layout.body + len(self.heads)
        self.end = self.index_first + len(layout.terms)
        self._rows = {}
        self._leasts = {}
        self.least = [self._least_rows(unit) for unit in range(self.contents_first, self.end)]
        fits = [fit for j in range(len(layout.papers)) for fit in self._leaf_fits(j)]
        self.contents_fits = [fit for fit in fits if fit.first < self.index_first]
        self.index_fits = [fit for fit in fits if fit.first >= self.index_first]

    def must_begin(self, unit):
        """Whether an entry must begin a leaf."""
        return unit in (self.contents_first, self.index_first)

    def head_rows(self, k, width):
        """The number of rows of the entry of a head on a page whose written form is so wide."""
        block = self.layout.text.blocks[k]
        return self.entry_rows((CONTENTS_SIGN, see_token(self.layout.text, k, DIGIT * width), *block[3]))

    def term_rows(self, bit, widths):
        """The number of rows of the entry of a term with ranges of these widths."""
        return self.entry_rows((INDEX_SIGN, self.layout.terms[bit], *[DIGIT * width for width in widths]))

    def entry_rows(self, tokens):
        """The number of rows of an entry."""
        if tokens not in self._rows:
            self._rows[tokens] = len(set_lines(tokens, self.layout.form.width))
        return self._rows[tokens]

    def varied_heads(self):
        """The heads whose entries have more rows or fewer as their pages are written wide or narrow."""
        return [k for k in self.heads if len(set([self.head_rows(k, width) for width in self.layout.widths])) > 1]

    def varied_terms(self):
        """The bits of the terms whose entries may have one row or more."""
        return [bit for bit, term in enumerate(self.layout.terms)
                if self._term_width(bit) > self.layout.form.width]

    def _term_width(self, bit):
        """How wide the tokens of the entry of a term can be at most."""
        count = 0
        for shapes in self.layout.masks:
            count = count + max([len([mask for mask in masks if mask >> bit & 1]) for masks in shapes])
        # A range of two pages is no wider than two ranges of one page each with the blank between them.
        return token_width(self.layout.terms[bit]) + 2 + count * (1 + max(self.layout.widths + [0]))

    def _least_rows(self, unit):
        """No more than the rows that a new entry has."""
        if unit < self.index_first:
            return min([self.head_rows(self.heads[unit - self.contents_first], width) for width in self.layout.widths])
        bit = unit - self.index_first
        stands = any([mask >> bit & 1 for shapes in self.layout.masks for masks in shapes for mask in masks])
        return self.term_least(bit, (min(self.layout.widths),) if stands else ())

    def term_least(self, bit, widths):
        """No more than the rows of the entry of a term that has ranges of these widths, and perhaps more."""
        if (bit, widths) not in self._leasts:
            rows = 1
            used = -1
            for width in (1, token_width(self.layout.terms[bit]), *widths):
                used = used + 1 + width
                if used > self.layout.form.width:
                    rows = rows + 1
                    used = width
            self._leasts[(bit, widths)] = rows
        return self._leasts[(bit, widths)]

    def _leaf_fits(self, j):
        """All ways in which an old leaf fits as a leaf of a list."""
        paper = self.layout.papers[j]
        if not paper.fits(self.layout.form.height):
            return []
        fits = []
        for first in range(self.contents_first, self.end):
            fit = self._leaf_fit(j, paper, first)
            if fit is not None:
                fits.append(fit)
        return fits

    def _leaf_fit(self, j, paper, first):
        """The fit of an old leaf from the unit first on, or None."""
        leaf = self.read_leaf(paper, first)
        if leaf is None:
            return None
        middle, after, read = leaf
        if first >= self.index_first:
            if paper.is_marked() or not all([one <= two for bit, pairs in read for one, two in pairs]):
                return None
            return IndexFit(j, first, middle, after, read)
        if paper.spoilt_at({place: True for k, place in read}):
            return None
        return ContentsFit(j, first, middle, after, {k: self._said_page(paper, k, place) for k, place in read})

    def read_leaf(self, paper, first):
        """The units behind the two sides of a leaf that is printed as entries from a unit on, and these; or None."""
        if paper.feet[0] or paper.feet[1]:
            return None
        read = []
        middle = self._read_side(paper, 0, first, read)
        after = None if middle is None else self._read_side(paper, 1, middle, read)
        if after is None or (paper.rows[1] and self.must_begin(middle)):
            return None
        return (middle, after, read)

    def _read_side(self, paper, side, unit, read):
        """The unit behind the entries that stand on a side from a unit on, or None if they do not stand there."""
        rows = paper.rows[side]
        spot = 0
        while spot < len(rows):
            if unit == self.end or (unit == self.index_first and spot > 0):
                return None
            entry = self._entry(rows, spot, unit)
            if entry is None:
                return None
            count, thing = entry
            if unit < self.index_first:
                thing = (self.heads[unit - self.contents_first], (side, spot + thing[0], thing[1]))
            read.append(thing)
            spot = spot + count
            unit = unit + 1
        return unit

    def _entry(self, rows, spot, unit):
        """The number of rows of an entry, and what it tells; None if it does not stand there."""
        return self._head_entry(rows, spot, unit) if unit < self.index_first else self._term_entry(rows, spot, unit)

    def _head_entry(self, rows, spot, unit):
        """The number of rows of an entry of the contents, and the place of its pointer in these; or None."""
        words = self.layout.text.blocks[self.heads[unit - self.contents_first]][3]
        tokens = []
        count = 0
        while len(tokens) < len(words) + 2 and spot + count < len(rows):
            tokens.extend(list(rows[spot + count]))
            count = count + 1
        if tokens[:1] != [CONTENTS_SIGN] or tuple(tokens[2:]) != words or not is_pointing(tokens[1]):
            return None
        if not self._are_set(tokens, rows[spot:spot + count]):
            return None
        return (count, token_spot([" ".join(list(row)) for row in rows[spot:spot + count]], 1))

    def _term_entry(self, rows, spot, unit):
        """The number of rows of an entry of the index, and its bit with the pairs of its ranges; or None."""
        bit = unit - self.index_first
        count = 1
        while spot + count < len(rows) and read_range(rows[spot + count][0]) is not None:
            count = count + 1
        tokens = [token for row in rows[spot:spot + count] for token in row]
        if tokens[:2] != [INDEX_SIGN, self.layout.terms[bit]] or not self._are_set(tokens, rows[spot:spot + count]):
            return None
        pairs = [read_range(token) for token in tokens[2:]]
        return None if None in pairs else (count, (bit, pairs))

    def _are_set(self, tokens, rows):
        """Whether the tokens are set in just these rows."""
        widths = [token_width(token) for token in tokens]
        if max(widths) > self.layout.form.width:
            return False
        ends = row_ends(widths, self.layout.form.width)
        first = 0
        for row in rows:
            if first == len(tokens) or ends[first] != first + len(row):
                return False
            first = ends[first]
        return first == len(tokens)

    def _said_page(self, paper, k, place):
        """The page on which an old leaf says a head to be, or None if no page makes this true."""
        token = paper.leaf.says(*place)
        number, _, word = token.partition("/")
        return read_page(word) if number == self.layout.text.numbers[k] else None
