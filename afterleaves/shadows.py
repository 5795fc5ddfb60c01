"""Old leaves whose print no new leaf of the same label may have.

A leaf with the label and the print of an old one is kept, and says what the old one says. If pen strokes on the
old leaf say something else than its print, a new leaf that happens to be printed just so is no new leaf, and
not as it must be kept either: such an old leaf is marked, and ways on which that happens lead to no successor.

A watch (j, whole, open) tells that a new leaf has the label of the marked leaf j and, but for tokens of
pointers, its print, so far of its front alone or of the whole leaf; open are the pairs of a pointer whose token
is not known yet and of the token of the print.
"""

from afterleaves.labels import read_page
from afterleaves.lists import INDEX_SIGN
from afterleaves.printing import span_token

# A flag that tells that a list cannot be printed as on the old leaf any more.
OTHER = 0


class ListShadow:
    """A marked leaf that is printed as a leaf of a list, from the unit first on.

    Heads tells for each head the page that is printed, and entries the bits of terms with the printed ranges.
    """

    def __init__(self, j, first, middle, after, heads, entries):
        self.j = j
        self.first = first
        self.middle = middle
        self.after = after
        self.heads = heads
        self.entries = entries


class Shadows:
    """The marked leaves of an old book."""

    def __init__(self, layout, listing):
        self.layout = layout
        self.listing = listing
        self.marked = [j for j, paper in enumerate(layout.papers)
                       if paper.is_marked() and paper.fits(layout.form.height)]
        self.lists = [shadow for j in self.marked for shadow in self._list_shadows(j, layout.papers[j])]

    def first_flags(self):
        """What is known of the lists ahead of all pages: a flag for each shadow."""
        return tuple([(1,) if shadow.entries is None else ((0, 0, 0),) * len(shadow.entries) for shadow in self.lists])

    def _list_shadows(self, j, paper):
        """The shadows of a marked leaf."""
        shadows = []
        for first in range(self.listing.contents_first, self.listing.end):
            fit = self.listing.read_leaf(paper, first)
            if fit is not None and first < self.listing.index_first:
                heads = {k: self._printed_page(paper, k, place) for k, place in fit[2]}
                if None not in list(heads.values()):
                    shadows.append(ListShadow(j, first, fit[0], fit[1], heads, None))
            elif fit is not None and self._is_printed(paper, fit[2]):
                shadows.append(ListShadow(j, first, fit[0], fit[1], {}, fit[2]))
        return shadows

    def _printed_page(self, paper, k, place):
        """The page of a head by the print of a leaf of the contents, or None if no new leaf has such a token."""
        side, row, word = place
        number, _, page = paper.rows[side][row][word].partition("/")
        return read_page(page) if number == self.layout.text.numbers[k] else None

    def _is_printed(self, paper, entries):
        """Whether ranges are written on the leaf as they are on new leaves."""
        due = []
        for bit, pairs in entries:
            due.extend([INDEX_SIGN, self.layout.terms[bit]] + [span_token(first, last) for first, last in pairs])
        return due == [token for rows in paper.rows for row in rows for token in row]

    def headed(self, flags, heads, page):
        """The flags behind a page on which heads begin."""
        return tuple([(OTHER,) if any([shadow.heads.get(k, page) != page for k in heads]) else flag
                      for shadow, flag in zip(self.lists, flags)])

    def termed(self, flags, page, mask):
        """The flags behind a page with rows, on which the terms of the mask stand."""
        found = []
        for shadow, flag in zip(self.lists, flags):
            if shadow.entries is not None and flag != (OTHER,):
                runs = [_run_on(run, pairs, page, mask >> bit & 1) for run, (bit, pairs) in zip(flag, shadow.entries)]
                flag = (OTHER,) if None in runs else tuple(runs)
            found.append(flag)
        return tuple(found)

    def is_same_list(self, flags, j, first, middle, after):
        """Whether a new leaf of a list with these units has the label and print of the marked leaf j."""
        for shadow, flag in zip(self.lists, flags):
            if (shadow.j, shadow.first, shadow.middle, shadow.after) == (j, first, middle, after):
                if shadow.entries is None:
                    return flag != (OTHER,)
                return flag != (OTHER,) and all([_is_run_out(run, pairs)
                                                 for run, (bit, pairs) in zip(flag, shadow.entries)])
        return False

    def pages_alike(self, j, side, node, after, load):
        """The printed tokens of the pointers of a page that is printed, but for these, as a side of a marked leaf.

        They are pairs of pointer and token; None if the page is not printed so.
        """
        if load is None:
            return () if not self.layout.papers[j].rows[side] else None
        for place, held, places in self.layout.side_fits(self.layout.papers[j], side, node):
            if place == after and held[1] == load.starts:
                return tuple([(p, printed) for p, printed, said in held[0]])
        return None


def _run_on(run, pairs, page, stands):
    """How far the preferred ranges of a term agree with the printed ones behind a page, or None if they do not.

    A run is the number of the ranges that are complete, and whether one is open, and may end with the last page.
    """
    count, is_open, may_end = run
    if stands and not is_open:
        if count == len(pairs) or pairs[count][0] != page:
            return None
        return (count, 1, 1 if pairs[count][1] == page else 0)
    if stands:
        return (count, 1, 1 if pairs[count][1] == page else 0)
    if is_open:
        return (count + 1, 0, 0) if may_end else None
    return run


def _is_run_out(run, pairs):
    """Whether the preferred ranges of a term are the printed ones, when all pages are behind."""
    count, is_open, may_end = run
    return count + 1 == len(pairs) and may_end == 1 if is_open else count == len(pairs)


def told_watches(watches, p, token):
    """The watches when the token of a pointer on a new leaf is known."""
    left = []
    for j, whole, pairs in watches:
        wanted = [printed for other, printed in pairs if other == p]
        if not wanted:
            left.append((j, whole, pairs))
        elif wanted == [token]:
            left.append((j, whole, tuple([pair for pair in pairs if pair[0] != p])))
    return tuple(left)


def are_watched(watches):
    """Whether no watch tells that a new leaf has the print of a marked one."""
    return not any([whole and not pairs for j, whole, pairs in watches])
