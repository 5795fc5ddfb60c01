"""All successors of a small book, found by trying all ways to make one; slow, and written apart from the program's search."""

from itertools import product

from afterleaves.books import Book, is_kept
from afterleaves.errors import AfterError, NoRoom
from afterleaves.filling import body_rows, told_of
from afterleaves.labels import between, write_page
from afterleaves.leaves import Leaf
from afterleaves.lists import contents_entries, head_spots, index_entry
from afterleaves.looker import preferred_token, true_tokens
from afterleaves.printing import Printed, entry_rows
from afterleaves.reading import Reading
from afterleaves.successors import price_of, successor_fault

NEAR = ("here", "overleaf", "facing")


def same_printed(old, leaf):
    return leaf.label in old and leaf.same_print(old[leaf.label])


def told_labels(old, kept):
    """The labels of leaves of which kept tells the indexes of old leaves, or None for a new one; None if there is no room."""
    labels = []
    for k, j in enumerate(kept):
        if j is not None:
            labels.append(old.labels[j])
            continue
        low = max([i for i in kept[:k] if i is not None], default=-1)
        high = min([i for i in kept[k:] if i is not None], default=len(old))
        count = k - max([n for n in range(k) if kept[n] is not None], default=-1) - 1
        if low + 1 + count < high:
            labels.append(old.labels[low + 1 + count])
        else:
            try:
                labels.append(between(labels[-1] if labels else None, old.labels[high] if high < len(old) else None))
            except NoRoom:
                return None
    return labels


def parted(count, may_end, begins, most):
    """All ways to part so many rows into leaves: tuples of bounds (first, middle, last)."""
    found = []

    def go(first, leaves):
        if first == count:
            found.append(tuple(leaves))
            return
        if len(leaves) == most:
            return
        for middle in range(first + 1, count + 1):
            if any(begins[first + 1:middle]):
                break
            if not may_end[middle - 1]:
                continue
            go(middle, leaves + [(first, middle, middle)])
            for last in range(middle + 1, count + 1):
                if any(begins[middle:last]):
                    break
                if may_end[last - 1]:
                    go(last, leaves + [(first, middle, last)])

    go(0, [])
    return found


def kept_choices(fits):
    """All ascending choices of old leaves for leaves, each of which may be one of these or None."""
    choices = [()]
    for options in fits:
        choices = [(*choice, j) for choice in choices for j in (None, *options)
                   if j is None or all(i is None or i < j for i in choice)]
    return choices


def side_counts(text):
    """The numbers of entries of the lists."""
    return [len(head_spots(text)) if block[0] == "contents" else len(block[2])
            for block in text.blocks if block[0] in ("contents", "index")]


class Trial:
    def __init__(self, old, text, form, most):
        self.old, self.text, self.form, self.most = old, text, form, most
        self.body = [k for k, block in enumerate(text.blocks) if block[0] in ("head", "para", "fig")]

    def widths(self):
        """For each pointer the widths that its token is tried with."""
        labels = list(self.old.labels)
        for low, high in zip((None, *labels), (*labels, None)):
            for _ in range(self.most):
                try:
                    low = between(low, high)
                except NoRoom:
                    break
                labels.append(low)
        pages = {len(write_page((label, 0))) for label in labels}
        printed = [row.split(" ") for leaf in self.old for side in (leaf.front, leaf.back) for row in side]
        tokens = {len(token) for row in printed for token in row if "/" in token or "-" in token or token[-1:] in ("a", "b")}
        choices = []
        for k, item in self.text.pointers():
            targets = self.text.targets(k, item)
            if len(targets) == 2:
                choices.append(sorted(pages | {one + 1 + two for one in pages for two in pages} | tokens))
            else:
                number = len(self.text.numbers[targets[0]]) + 1
                choices.append(sorted({number + width for width in pages | {len(word) for word in NEAR}} | tokens))
        return product(*choices)

    def books(self):
        for widths in self.widths():
            told = ["0" * width for width in widths]
            if any(len(token) > self.form.width for token in told):
                continue
            prints = [Printed(self.text, k, told_of(self.text, k, told), self.form) for k in self.body]
            rows = body_rows(self.text, prints)
            for bounds in parted(len(rows.shown), rows.ends, rows.begins, self.most):
                yield from self.list_choices(widths, rows, bounds)

    def list_choices(self, widths, rows, bounds):
        choices = [()]
        for count in side_counts(self.text):
            ways = parted(count, [True] * count, [False] * count, self.most)
            choices = [(*choice, way) for choice in choices for way in ways]
        for lists in choices:
            if len(bounds) + sum(map(len, lists)) <= self.most:
                yield from self.kept_books(widths, rows, bounds, lists)

    def kept_books(self, widths, rows, bounds, lists):
        fits = [[j for j, leaf in enumerate(self.old) if self.fits(leaf, rows, bound)] for bound in bounds]
        signs = [block[0] for block in self.text.blocks if block[0] in ("contents", "index")]
        for sign, way in zip(signs, lists):
            for first, middle, last in way:
                counts = [middle - first, last - middle]
                fits.append([j for j, leaf in enumerate(self.old)
                             if [sum(row.split(" ")[0] == {"contents": "-", "index": "+"}[sign] for row in side)
                                 for side in (leaf.front, leaf.back)] == counts])
        for kept in kept_choices(fits):
            labels = told_labels(self.old, kept)
            if labels is not None:
                book = self.made(widths, rows, bounds, lists, kept, labels)
                if book is not None:
                    yield book

    def fits(self, leaf, rows, bound):
        """Whether an old leaf may be these rows: but for rows in which dummies stand."""
        for side, (first, behind) in ((leaf.front, bound[:2]), (leaf.back, bound[1:])):
            paper = rows.paper(first, behind)
            if len(side) != len(paper):
                return False
            for one, two in zip(side, paper):
                if one != two and "00" not in two:
                    return False
        return True

    def made(self, widths, rows, bounds, lists, kept, labels):
        spots = [None] * len(rows.shown)
        for k, (first, middle, last) in enumerate(bounds):
            for row in range(first, last):
                spots[row] = 2 * k + (row >= middle)
        pages = [(label, side) for label in labels for side in (0, 1)]
        tokens = []
        for (k, item), width in zip(self.text.pointers(), widths):
            row, word = self.token_place(rows, k, item)
            own = spots[row]
            j = kept[own // 2]
            if j is not None:
                first = bounds[own // 2][own % 2]
                printed = self.old.leaves[j].side_rows(own % 2)[row - first].split(" ")
                token = printed[word] if word < len(printed) else ""
            else:
                token = self.preferred(k, item, own, [spots[rows.starts[target]] for target in self.text.targets(k, item)], pages)
            if len(token) + token.count("m") + token.count("w") != width:
                return None
            tokens.append(token)
        try:
            return self.bound_book(tokens, spots, bounds, lists, kept, labels, pages)
        except AfterError:
            return None

    def token_place(self, rows, k, item):
        token = item + 1
        row = rows.starts[k]
        while token >= len(rows.shown[row].split(" ")):
            token = token - len(rows.shown[row].split(" "))
            row = row + 1
        return row, token

    def preferred(self, k, item, own, goals, pages):
        words = [write_page(pages[goal]) for goal in goals]
        if len(goals) == 2:
            return words[0] if words[0] == words[1] else "-".join(words)
        word = words[0]
        if self.form.near and own == goals[0]:
            word = "here"
        elif self.form.near and own // 2 == goals[0] // 2:
            word = "overleaf"
        elif self.form.near and abs(own - goals[0]) == 1:
            word = "facing"
        return f"{self.text.numbers[self.text.targets(k, item)[0]]}/{word}"

    def bound_book(self, tokens, spots, bounds, lists, kept, labels, pages):
        prints = [Printed(self.text, k, told_of(self.text, k, tokens), self.form) for k in self.body]
        rows = body_rows(self.text, prints)
        leaves = []
        for (first, middle, last), j, label in zip(bounds, kept, labels):
            sides = (rows.paper(first, middle), rows.paper(middle, last))
            if j is not None and sides != (self.old.leaves[j].front, self.old.leaves[j].back):
                return None
            leaves.append(Leaf(label, *sides))
        body = Book(leaves)
        entries = []
        for block in self.text.blocks:
            if block[0] == "contents":
                entries.append(contents_entries(self.text, [pages[spots[rows.starts[k]]] for k in head_spots(self.text)]))
            elif block[0] == "index":
                entries.append([index_entry(term, body, sorted({pages[spot] for spot, row in zip(spots, rows.shown)
                                                                if term in row.split(" ")})) for term in block[2]])
        for part, way in zip(entries, lists):
            for first, middle, last in way:
                j, label = kept[len(leaves)], labels[len(leaves)]
                sides = [tuple(row for tokens in part[begin:end] for row in entry_rows(tokens, self.form))
                         for begin, end in ((first, middle), (middle, last))]
                leaves.append(self.old.leaves[j] if j is not None else Leaf(label, *sides))
        plain = Book([Leaf(leaf.label, leaf.front, leaf.back) for leaf in leaves])
        return self.penned(Reading(self.text, self.form, plain))

    def penned(self, reading):
        """The book with the strokes that it must have if it is a successor, and no others."""
        strokes = {}
        for k, item in reading.owners():
            (label, side), row, word = reading.own(k, item)
            leaf = reading.book[label]
            if is_kept(self.old, leaf):
                said = self.old[label].says(side, row, word)
                if said not in true_tokens(reading, k, item):
                    said = preferred_token(reading, k, item)
                if said != leaf.says(side, row, word):
                    strokes.setdefault(label, []).append((side, row, word, said))
        return Book([leaf.penned(strokes.get(leaf.label, ())) for leaf in reading.book])


def all_successors(old, text, form, most, strokes):
    """All successors of at most so many leaves."""
    found = []
    for book in Trial(old, text, form, most).books():
        if book not in found and successor_fault(old, book, text, form, strokes=strokes) is None:
            found.append(book)
    return found


def least_price(old, text, form, most, leaf, stroke):
    """The least price of all successors of at most so many leaves, or None."""
    prices = [price_of(old, book, leaf=leaf, stroke=stroke or 1) for book in all_successors(old, text, form, most, stroke is not None)]
    return min(prices, default=None)
