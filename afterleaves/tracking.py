"""What of the pages behind a place of a successor still matters ahead of it.

That is all that the rest of the way hangs on, and no more, so that ways which agree in it can be taken for one:
  points   for each pointer the pair (own, goal) as long as it is open, else (0, 0); own is 0, NEW or what an old
           leaf says there, goal is 0, the first page of a span, or the pair of the width of the far place and of
           the far token if an old leaf says it
  near     the parts of open pointers that stand on the last page
  paras    for each paragraph with pointers the number of the choices of widths that are left
  heads    for each head whose entry varies the rows of the entry
  terms    for each term whose entry varies the widths of its ranges, and the range that is open
  wrongs   for each old leaf that fits in the contents how many of its pointers are not true; DEAD if too many
  alive    for each old leaf that fits in the index whether it is true so far
  watches  the watches of marked leaves
  flags    for each shadow of a list whether the list is printed as on the old leaf so far
"""

from afterleaves.labels import write_page
from afterleaves.lines import token_width
from afterleaves.looker import FACING, HERE, OVERLEAF
from afterleaves.shadows import Shadows, are_watched, told_watches

NEW = 1
DEAD = -1
# Whether an old leaf of the index may be kept, may not, or was kept.
LOST = 0
OPEN = 1
KEPT = 2


class Track:
    """What matters of the pages so far; see above."""

    def __init__(self, points, near, paras, heads, terms, wrongs, alive, watches, flags):
        self.points = points
        self.near = near
        self.paras = paras
        self.heads = heads
        self.terms = terms
        self.wrongs = wrongs
        self.alive = alive
        self.watches = watches
        self.flags = flags

    def known(self, whole):
        """All of it as one tuple; without the terms if it shall not be whole."""
        return (self.points, self.near, self.paras, self.heads, self.terms if whole else (), self.wrongs, self.alive,
                self.watches, self.flags)

    def copied(self):
        """Another track that is alike so far."""
        return Track(self.points, self.near, self.paras, self.heads, self.terms, self.wrongs, self.alive,
                     self.watches, self.flags)


class Tracker:
    """Follows the pages of a successor; a stroke of the price None may not be made."""

    def __init__(self, layout, listing, stroke):
        self.layout = layout
        self.listing = listing
        self.stroke = stroke
        self.heads = listing.varied_heads()
        self.terms = listing.varied_terms()
        self.shadows = Shadows(layout, listing)
        self._words = {}

    def start(self):
        """The track ahead of all pages."""
        return Track(((0, 0),) * len(self.layout.points), (), (0,) * len(self.layout.holders), (0,) * len(self.heads),
                     (((), ()),) * len(self.terms), (0,) * len(self.listing.contents_fits),
                     (OPEN,) * len(self.listing.index_fits), (), self.shadows.first_flags())

    def written(self, page):
        """The page as it is written."""
        if page not in self._words:
            self._words[page] = write_page(page)
        return self._words[page]

    def paged(self, track, page, load):
        """The pair of track and price behind a page that holds this; None if this page may not come."""
        track = track.copied()
        cost = 0
        if load.touched or load.paras:
            cost = self._pointed(track, page, load)
            if cost is None:
                return None
        else:
            track.near = ()
        if load.heads and self.listing.heads:
            self._headed(track, page, load.heads)
        if track.flags:
            track.flags = self.shadows.termed(track.flags, page, load.mask)
        return (track, cost) if are_watched(track.watches) and self.note_terms(track, page, load.mask) else None

    def note_terms(self, track, page, mask):
        """Notes the terms on a page that has rows; False if a leaf that was kept is not true then."""
        if self.terms:
            track.terms = tuple([self._ranged(worth, self.written(page), mask >> bit & 1)
                                 for worth, bit in zip(track.terms, self.terms)])
        return self.note_page(track, page, mask)

    def note_page(self, track, page, mask):
        """Notes of a page with rows whether old leaves of the index are true of it; False as above."""
        return self._lose(track, [state != LOST and mask & fit.care != fit.told_on(page)
                                  for state, fit in zip(track.alive, self.listing.index_fits)])

    def note_label(self, track, low, high):
        """Notes that two labels follow each other (None ahead of all and behind all); False as above."""
        return self._lose(track, [state != LOST and fit.passes_end(low, high)
                                  for state, fit in zip(track.alive, self.listing.index_fits)])

    def _lose(self, track, failed):
        """Notes which old leaves of the index may not be kept any more; False if one of them was kept."""
        if KEPT in [state for state, fails in zip(track.alive, failed) if fails]:
            return False
        if any(failed):
            track.alive = tuple([LOST if fails else state for state, fails in zip(track.alive, failed)])
        return True

    def drop(self, track, spot):
        """Notes that no leaf ahead of this one can be kept any more."""
        track.wrongs = tuple([DEAD if fit.j < spot else wrong
                              for wrong, fit in zip(track.wrongs, self.listing.contents_fits)])
        track.alive = tuple([LOST if fit.j < spot and state == OPEN else state
                             for state, fit in zip(track.alive, self.listing.index_fits)])

    def end_blocks(self, track):
        """Notes that all blocks are behind: of the terms only the rows of their entries matter now."""
        track.terms = tuple([self.listing.term_rows(bit, closed(worth)) for worth, bit in zip(track.terms, self.terms)])

    def _ranged(self, worth, word, stands):
        """The widths of the ranges of a term behind a page, on which it stands or not."""
        widths, last = worth
        if stands:
            return (widths, (last[0], len(word)) if last else (len(word),))
        return (closed(worth), ()) if last else worth

    def _headed(self, track, page, heads):
        """Notes the page of heads that begin on it."""
        if track.flags:
            track.flags = self.shadows.headed(track.flags, heads, page)
        width = len(self.written(page))
        if self.heads:
            track.heads = tuple([self.listing.head_rows(k, width) if k in heads else rows
                                 for k, rows in zip(self.heads, track.heads)])
        wrongs = []
        for wrong, fit in zip(track.wrongs, self.listing.contents_fits):
            if wrong != DEAD:
                missed = len([k for k in heads if k in fit.told and fit.told[k] != page])
                wrong = DEAD if missed and self.stroke is None else wrong + missed
            wrongs.append(wrong)
        track.wrongs = tuple(wrongs)

    def _pointed(self, track, page, load):
        """Notes the pointers and goals on a page; the price of the strokes that come of it, or None."""
        points = list(track.points)
        paras = list(track.paras)
        for q, number in load.paras:
            paras[q] = number
        for p, printed, said in load.owns:
            points[p] = (NEW if said is None else said, points[p][1])
            if printed is not None and not self._cut(paras, p, token_width(printed)):
                return None
        for p, which in load.goals:
            points[p] = (points[p][0], self._goal(self.layout.points[p], which, points[p][1], page))
        owned = [p for p, printed, said in load.owns]
        goals = [p for p, which in load.goals]
        cost = 0
        near = []
        for p in load.touched:
            own, goal = points[p]
            if own == 0 or goal == 0 or len(goal) == 3:
                if self.layout.form.near and not self.layout.points[p].span:
                    near.extend([part for part, place in ((2 * p, owned), (2 * p + 1, goals)) if p in place])
                points[p] = self._open_part(p, points[p])
                continue
            word = self._near_word(p, owned, goals, track.near, page[1])
            price = self._resolved(paras, p, own, goal, word)
            if price is None:
                return None
            cost = cost + price
            if own == NEW and track.watches:
                token = goal[1] if word is None else self.layout.points[p].near_token(word)
                track.watches = told_watches(track.watches, p, token)
            points[p] = (0, 0)
        track.points = tuple(points)
        track.paras = tuple(paras)
        track.near = tuple(near)
        return cost

    def _cut(self, paras, p, width):
        """Tells the width of a pointer; False if it cannot have it."""
        point = self.layout.points[p]
        q = self.layout.holders.index(point.block)
        number = self.layout.choices.cut(paras[q], point.turn, width)
        if number is None:
            return False
        paras[q] = number
        return True

    def _goal(self, point, which, goal, page):
        """The goal of a pointer, one of whose targets begins on the page."""
        word = self.written(page)
        if not point.span:
            token = f"{point.number}/{word}"
            return (len(word), token if token in point.said else None)
        if which == 0:
            return (len(word), word, 0)
        width, first, _ = goal
        if first == word:
            return (width, word if word in point.said else None)
        token = f"{first}-{word}"
        return (width + 1 + len(word), token if token in point.said else None)

    def _open_part(self, p, pair):
        """The pair of own and goal of an open pointer, without a first page that no old leaf says."""
        own, goal = pair
        if goal == 0 or len(goal) < 3 or any([token.startswith(goal[1]) for token in self.layout.points[p].said]):
            return pair
        return (own, (goal[0], "", 0))

    def _near_word(self, p, owned, goals, near, side):
        """The near word for a pointer, one end of which stands on the page; None if there is none."""
        if self.layout.points[p].span or not self.layout.form.near:
            return None
        if p in owned and p in goals:
            return HERE
        # The other end stands on the last page: overleaf, if this is a back.
        if 2 * p in near or 2 * p + 1 in near:
            return OVERLEAF if side == 1 else FACING
        return None

    def _resolved(self, paras, p, own, goal, word):
        """The price of what is said by a pointer, both ends of which are told now; None if it may not be so."""
        point = self.layout.points[p]
        if own != NEW:
            if own == goal[1] or (word is not None and own == point.near_token(word)):
                return 0
            return self.stroke
        width = goal[0] if word is None else len(word)
        if not point.span:
            width = width + len(point.number) + 1
        return 0 if self._cut(paras, p, width) else None


def closed(worth):
    """The widths of all ranges of a term, the open one among them."""
    widths, last = worth
    return (*widths, sum(last) + len(last) - 1) if last else widths
