"""Making the book of a way that the search has found."""

from afterleaves.books import Book, is_kept
from afterleaves.filling import Rows, body_rows, told_of
from afterleaves.leaves import Leaf
from afterleaves.lists import contents_entries, head_spots, index_entry
from afterleaves.looker import near_word, preferred_token, true_tokens
from afterleaves.printing import Printed, entry_rows, span_token
from afterleaves.reading import Reading


class Maker:
    """Makes the leaves of the way that ends with a step.

    Its sheets, one for each page, are tuples (first node, node behind, load); signs and stays tell of each leaf
    its label and the index of the old leaf that it is, or None; owns and starts tell the index of the page of each
    pointer and block.
    """

    def __init__(self, layout, last):
        self.layout = layout
        self.text = layout.text
        self.form = layout.form
        self.sheets = []
        self.signs = []
        self.stays = []
        for step in way_steps(last):
            self.sheets.extend(list(step.sheets))
            if step.place[1] == 0:
                spot, count = step.place[2:]
                self.signs.append(layout.row.last_label(spot, count))
                self.stays.append(step.stays)
        loads = [(spot, load) for spot, (first, behind, load) in enumerate(self.sheets) if load is not None]
        self.starts = {unit: spot for spot, load in loads for unit, shape in load.starts}
        self.owns = {own[0]: (spot, own[1]) for spot, load in loads for own in load.owns}

    def page(self, spot):
        """The page with this index."""
        return (self.signs[spot // 2], spot & 1)

    def made_leaves(self):
        """The leaves without pen strokes."""
        rows = self._body()
        count = len([first for first, behind, load in self.sheets[::2] if first[0] < self.layout.body])
        papers = [self._paper(rows, spot) for spot in range(2 * count)]
        leaves = self._bound_leaves(papers)
        for tokens in self._entries(rows, Book(leaves)):
            shown = entry_rows(tokens, self.form)
            rows.put(shown, ((),) * len(shown), (), False)
        papers.extend([self._paper(rows, spot) for spot in range(2 * count, len(self.sheets))])
        return self._bound_leaves(papers)

    def _bound_leaves(self, papers):
        """The leaves with these pages."""
        return [Leaf(self.signs[k], papers[2 * k], papers[2 * k + 1]) for k in range(len(papers) // 2)]

    def _paper(self, rows, spot):
        """The rows of a page."""
        kept = self.stays[spot // 2]
        if kept is not None:
            return self.layout.papers[kept].leaf.side_rows(spot & 1)
        first, behind, load = self.sheets[spot]
        return rows.paper(row_at(rows, first), row_at(rows, behind))

    def _body(self):
        """The rows of the heads, paragraphs and figures."""
        told = [self._token(p, point) for p, point in enumerate(self.layout.points)]
        prints = [Printed(self.text, k, told_of(self.text, k, told), self.form) for k in range(self.layout.body)]
        return body_rows(self.text, prints) if prints else Rows()

    def _token(self, p, point):
        """The token that is printed for a pointer."""
        own, printed = self.owns[p]
        if printed is not None:
            return printed
        goals = [self.starts[goal] for goal in point.goals]
        if point.span:
            return span_token(self.page(goals[0]), self.page(goals[1]))
        word = near_word(own, goals[0]) if self.form.near else None
        return point.far_token(self.page(goals[0])) if word is None else point.near_token(word)

    def _entries(self, rows, book):
        """The tokens of the entries of the lists, behind the book of the blocks."""
        entries = []
        for block in self.text.blocks:
            if block[0] == "contents":
                places = [self.page(self.starts[k]) for k in head_spots(self.text)]
                entries.extend(list(contents_entries(self.text, places)))
            elif block[0] == "index":
                entries.extend([index_entry(term, book, self._term_pages(rows, term, len(book))) for term in block[2]])
        return entries

    def _term_pages(self, rows, term, count):
        """The pages of the first leaves, so many, on which a term stands."""
        found = []
        for spot, (first, behind, load) in enumerate(self.sheets[:2 * count]):
            shown = rows.shown[row_at(rows, first):row_at(rows, behind)]
            if any([term in row.split(" ") for row in shown]):
                found.append(self.page(spot))
        return found


def row_at(rows, node):
    """The index of the row behind a node."""
    unit, shape, row = node
    return rows.starts[unit] + row if unit < len(rows.starts) else len(rows.shown)


def way_steps(last):
    """The steps of the way that ends with this step, without its beginning."""
    steps = []
    while last.ahead is not None:
        steps.append(last)
        last = last.ahead
    return steps[::-1]


def made_book(layout, last):
    """The book of the way that ends with a step."""
    plain = Book(Maker(layout, last).made_leaves())
    return _penned(layout.old, Reading(layout.text, layout.form, plain))


def _penned(old, reading):
    """The book with the strokes that stay on its kept leaves, and those that are new there."""
    strokes = {leaf.label: [] for leaf in reading.book}
    for pair in reading.owners():
        (label, side), row, word = reading.own(*pair)
        if not is_kept(old, reading.book[label]):
            continue
        said = old[label].says(side, row, word)
        if said not in true_tokens(reading, *pair):
            strokes[label].append((side, row, word, preferred_token(reading, *pair)))
        elif (side, row, word) in [stroke[:3] for stroke in old[label].pen]:
            strokes[label].append((side, row, word, said))
    return Book([leaf.penned(strokes[leaf.label]) for leaf in reading.book])
