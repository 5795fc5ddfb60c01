"""Setting a text with told tokens: its rows are filled into leaves, one after the other."""

from afterleaves.blocks import PLAIN_KINDS, must_begin_leaf
from afterleaves.books import Book
from afterleaves.errors import NoBook, TooMany
from afterleaves.leaves import Leaf
from afterleaves.lists import contents_entries, head_spots, index_entry
from afterleaves.printing import Printed, entry_rows

MOST_FILLED = 40


class Rows:
    """Rows to be filled into leaves: their text, the foot rows they bring, where pages may end, what begins a leaf.

    Starts are the indexes of the first rows of the blocks or entries.
    """

    def __init__(self):
        self.shown = []
        self.feet = []
        self.ends = []
        self.begins = []
        self.starts = []

    def put(self, shown, feet, ends, begins):
        """Puts the rows of a block or entry behind the others; begins tells whether it must begin a leaf."""
        self.starts.append(len(self.shown))
        self.shown.extend(list(shown))
        self.feet.extend(list(feet))
        self.ends.extend(list(ends))
        self.begins.extend([begins] + [False] * (len(shown) - 1))

    def paper(self, first, behind):
        """The rows of a page that takes the rows from first on up to behind."""
        feet = [foot for brought in self.feet[first:behind] for foot in brought]
        return tuple(self.shown[first:behind] + feet)


def set_book(text, told, form):
    """The book that prints the text with the told tokens."""
    body = body_rows(text, [Printed(text, k, told_of(text, k, told), form) for k in plain_spots(text)])
    spans = body_spans(body, form)
    leaves = _filled_leaves(body, spans, 0)
    pages = _row_pages(spans)
    for block in text.blocks:
        if block[0] == "contents":
            entries = contents_entries(text, [pages[body.starts[k]] for k in head_spots(text)])
        elif block[0] == "index":
            entries = _index_entries(block[2], Book(leaves), body, pages)
        else:
            continue
        leaves = leaves + _list_leaves(entries, form, len(leaves))
    return Book(leaves)


def plain_spots(text):
    """The indexes of the heads, paragraphs and figures, which are all ahead of the lists."""
    return [k for k, block in enumerate(text.blocks) if block[0] in PLAIN_KINDS]


def told_of(text, k, told):
    """Of the told tokens of all pointers those of the block k."""
    return tuple([token for (spot, item), token in zip(text.pointers(), told) if spot == k])


def ends_text(text, k):
    """Whether the last row of a plain block is the last one of the text: no list with rows stands behind it."""
    if k + 1 < len(text) and text.blocks[k + 1][0] == "contents" and not head_spots(text):
        k = k + 1
    return k + 1 == len(text)


def body_rows(text, prints):
    """The text rows of the heads, paragraphs and figures, which are printed so."""
    rows = Rows()
    for k, printed in enumerate(prints):
        ends = printed.ends[:-1] + (printed.ends[-1] or ends_text(text, k),)
        rows.put(printed.rows, printed.feet, ends, must_begin_leaf(text.blocks[k]))
    return rows


def body_spans(body, form):
    """The spans of the pages into which the text rows of the plain blocks are filled."""
    return page_spans([1 + len(feet) for feet in body.feet], body.ends, body.begins, form.height, MOST_FILLED)


def page_spans(heights, ends, begins, most, leaves):
    """The pairs of first row and row behind of each page, fronts and backs by turns, in no more than so many leaves."""
    spans = []
    first = 0
    while first < len(heights):
        if len(spans) == 2 * leaves:
            raise TooMany("leaf")
        behind = first
        if len(spans) % 2 == 0 or not begins[first]:
            behind = _page_end(heights, ends, begins, most, first)
            if behind == first:
                raise NoBook()
        spans.append((first, behind))
        first = behind
    if len(spans) % 2 == 1:
        spans.append((first, first))
    return spans


def _page_end(heights, ends, begins, most, first):
    """The index behind the last row that a page beginning with the row first takes; first if it can take none."""
    behind = first
    used = 0
    for k in range(first, len(heights)):
        used = used + heights[k]
        if used > most or (begins[k] and k > first):
            break
        if ends[k]:
            behind = k + 1
    return behind


def page_at(spot):
    """The page with this index among those of a book with the labels (1,), (2,), .. ."""
    return ((spot // 2 + 1,), spot & 1)


def _row_pages(spans):
    """For each row the page on which it stands."""
    return [page_at(k) for k, (first, behind) in enumerate(spans) for _ in range(first, behind)]


def _filled_leaves(rows, spans, ahead):
    """The leaves with these pages, behind so many others."""
    papers = [rows.paper(first, behind) for first, behind in spans]
    return [Leaf((ahead + k // 2 + 1,), papers[k], papers[k + 1]) for k in range(0, len(papers), 2)]


def _index_entries(terms, book, body, pages):
    """The tokens of the entries of the index, behind the leaves of the body."""
    entries = []
    for term in terms:
        places = [page for page, row in zip(pages, body.shown) if term in row.split(" ")]
        entries.append(index_entry(term, book, sorted(set(places))))
    return entries


def _list_leaves(entries, form, ahead):
    """The leaves of a list of these entries, behind so many others."""
    rows = Rows()
    for k, tokens in enumerate(entries):
        shown = entry_rows(tokens, form)
        rows.put(shown, ((),) * len(shown), (False,) * (len(shown) - 1) + (True,), k == 0)
    spans = page_spans([1] * len(rows.shown), rows.ends, rows.begins, form.height, MOST_FILLED - ahead)
    return _filled_leaves(rows, spans, ahead)
