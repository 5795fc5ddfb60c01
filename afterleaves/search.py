"""The search for a successor of the least price.

A way to a successor goes from page to page. It is told by its places, each a tuple (node, side, spot, count):
the next page is a front (side 0) or a back, and spot and count are those of the row of labels. Of all ways
the one whose price can become the least is always followed first; of ways that come to one place and know
the same of what is behind them only the cheapest is followed.

Where the terms of the index stand makes for very many ways that differ in nothing but the length of its
entries, and seldom matters. So ways are first taken for one without a look at that (a rough search). What it
finds holds for all ways unless an entry turned out longer than it had to be where that made a difference.
"""

from heapq import heappop, heappush

from afterleaves.books import MOST_LEAVES
from afterleaves.bounds import NEVER, Bounds
from afterleaves.shadows import are_watched
from afterleaves.tracking import KEPT, Tracker


class Step:
    """A step of a way: where it leads, what is known there, and what it cost so far.

    Sheets are the tuples (first node, node behind, load) of the pages that it adds, and stays is the index of the
    kept leaf that they are, or None for a new page.
    """

    def __init__(self, ahead, place, track, cost, leaves, sheets, stays=None):
        self.ahead = ahead
        self.place = place
        self.track = track
        self.cost = cost
        self.leaves = leaves
        self.sheets = sheets
        self.stays = stays


class Search:
    """Looks for successors that keep all leaves with the wanted indexes."""

    def __init__(self, layout, listing, leaf, stroke, wanted):
        self.layout = layout
        self.listing = listing
        self.leaf = leaf
        self.tracker = Tracker(layout, listing, stroke)
        self.bounds = Bounds(layout, listing, leaf, stroke, wanted)
        self.wanted = wanted
        self.begin(False, NEVER)

    def begin(self, rough, limit):
        """Begins a search for ways that cost less than the limit.

        Reached is then the least bound of a place behind all blocks, were all entries short; cramped tells whether
        the length of entries made any difference so far, and barred whether it may have ended a way.
        """
        self.rough = rough
        self.limit = limit
        self.reached = NEVER
        self.cramped = False
        self.barred = False
        self._queue = []
        self._best = {}
        self._pushed = 0
        track = self.tracker.start()
        if self.layout.body == 0:
            self.tracker.end_blocks(track)
        self._push(Step(None, ((0, 0, 0), 0, 0, 0), track, 0, 0, ()))

    def next_way(self):
        """The last step of the next way to a successor, or None if there is no other one."""
        while self._queue:
            bound, rank, number, step = heappop(self._queue)
            if self._best[self._key(step)] < step.cost:
                continue
            if self._is_end(step):
                return step
            for further in self._further(step):
                self._push(further)
        return None

    def _key(self, step):
        """What ways must agree in to be taken for one."""
        node, side, spot, count = step.place
        # How many leaves there are only matters where there could be too many of them in the end.
        near = step.leaves + self.bounds.most_leaves(node, side) > MOST_LEAVES
        known = step.track.known(not self.rough or node[0] >= self.layout.body)
        return (*step.place, step.leaves if near else 0, *known)

    def _push(self, step):
        """Puts a step into the queue, unless it leads to no successor or a cheaper one leads to the same."""
        node, side, spot, count = step.place
        if step.leaves + self.bounds.fewest_leaves(node, side) > MOST_LEAVES:
            self.barred = self.barred or node[0] > self.listing.index_first
            return
        rows = tuple([self._least_rows(unit, step) for unit in range(max(node[0], self.layout.body), self.listing.end)])
        bound = step.cost + self.bounds.bound_at(step.place, step.track, rows)
        if node[0] >= self.layout.body:
            self._compare(step, rows, bound)
        if bound >= self.limit:
            return
        key = self._key(step)
        if key in self._best and self._best[key] <= step.cost:
            return
        self._best[key] = step.cost
        self._pushed = self._pushed + 1
        # Of ways that are equally good the one that is furthest goes first.
        rank = -1000 * node[0] - 2 * node[2] - side
        heappush(self._queue, (bound, rank, -self._pushed, step))

    def _compare(self, step, rows, bound):
        """Notes whether the length of the entries that are ahead, behind all blocks, makes a difference."""
        unit = step.place[0][0]
        # Ways are never taken for one whose entries of the contents differ in length.
        told = rows[:max(0, self.listing.index_first - unit)]
        least = told + tuple(self.listing.least[unit + len(told) - self.listing.contents_first:])
        short = step.cost + self.bounds.bound_at(step.place, step.track, least)
        self.reached = min(self.reached, short)
        self.barred = self.barred or short < NEVER <= bound
        for first in range(unit, self.listing.end):
            if self.cramped:
                break
            spot = first - unit
            self.cramped = self.bounds.list_pages(first, rows[spot:]) != self.bounds.list_pages(first, least[spot:])

    def _is_end(self, step):
        node, side, spot, count = step.place
        return node[0] == self.listing.end and side == 0

    def _further(self, step):
        """All steps behind a step."""
        if step.place[1] == 1:
            return self._back_steps(step)
        return self._kept_steps(step) + self._front_steps(step)

    def _new_pages(self, step):
        """The pairs of node and load of the new pages that can come; a page of a list has no load."""
        node, side, spot, count = step.place
        if node[0] < self.layout.body:
            return self.layout.pages_from(node) if side == 0 or self.layout.may_begin(node, False) else []
        if node[0] == self.listing.end or (side == 1 and self.listing.must_begin(node[0])):
            return []
        rows = [self._entry_rows(unit, step.track) for unit in range(node[0], self.listing.end)]
        return [((unit, 0, 0), None) for unit in self.bounds.list_pages(node[0], rows)]

    def _entry_rows(self, unit, track):
        """The rows of a new entry, when all blocks are behind."""
        if unit < self.listing.index_first:
            head = self.listing.heads[unit - self.listing.contents_first]
            if head in self.tracker.heads:
                return track.heads[self.tracker.heads.index(head)]
        elif unit - self.listing.index_first in self.tracker.terms:
            return track.terms[self.tracker.terms.index(unit - self.listing.index_first)]
        return self.listing.least[unit - self.listing.contents_first]

    def _least_rows(self, unit, step):
        """No more than the rows that a new entry will have."""
        least = self.listing.least[unit - self.listing.contents_first]
        if step.place[0][0] >= self.layout.body or unit < self.listing.index_first:
            return max(least, self._entry_rows(unit, step.track))
        bit = unit - self.listing.index_first
        if self.rough or bit not in self.tracker.terms:
            return least
        return max(least, self.listing.term_least(bit, step.track.terms[self.tracker.terms.index(bit)][0]))

    def _paged(self, track, page, load, after):
        """The pair of track and price behind a page up to a node; None if it may not come."""
        if load is None:
            track = emptied(track)
            return (track, 0) if self.tracker.note_page(track, page, 0) else None
        paged = self.tracker.paged(track, page, load)
        if paged is not None and after[0] == self.layout.body:
            self.tracker.end_blocks(paged[0])
        return paged

    def _back_steps(self, step):
        """The steps behind a new front."""
        node, side, spot, count = step.place
        page = (self.layout.row.last_label(spot, count), 1)
        steps = []
        for after, load in [(node, None)] + self._new_pages(step):
            track = self._watched_back(step, after, load)
            if track is None or after == node:
                paged = None if track is None else (emptied(track), 0)
            else:
                paged = self._paged(track, page, load, after)
            if paged is not None:
                cost = step.cost + paged[1]
                steps.append(Step(step, (after, 0, spot, count), paged[0], cost, step.leaves, ((node, after, load),)))
        return [further for further in steps if self._may_be(further)]

    def _front_steps(self, step):
        """The steps to the front of a new leaf."""
        node, side, spot, count = step.place
        row = self.layout.row
        options = [(row.chained(spot, count + 1), spot, count + 1)]
        if count == 0 and spot < len(row.told) and spot not in self.wanted:
            options.append((row.told[spot], spot + 1, 0))
        steps = []
        for label, further, number in options:
            track = step.track.copied()
            # With shorter entries the leaves of the index that are behind might have been enough.
            if label is None and node[0] > self.listing.index_first:
                self.barred = True
            if label is None or not self.tracker.note_label(track, row.last_label(spot, count), label):
                continue
            self.tracker.drop(track, further)
            for after, load in self._new_pages(step):
                watched = self._watched_front(track, spot, number, node, after, load)
                paged = self._paged(watched, (label, 0), load, after)
                if paged is not None:
                    cost = step.cost + self.leaf + paged[1]
                    place = (after, 1, further, number)
                    steps.append(Step(step, place, paged[0], cost, step.leaves + 1, ((node, after, load),)))
        return steps

    def _watched_front(self, track, spot, number, node, after, load):
        """The track with a watch, if a new front is printed as that of a marked leaf whose label it bears."""
        shadows = self.tracker.shadows
        if number > 0 or load is None or spot not in shadows.marked:
            return track
        pairs = shadows.pages_alike(spot, 0, node, after, load)
        if pairs is None:
            return track
        track = track.copied()
        track.watches = (*track.watches, (spot, False, pairs))
        return track

    def _watched_back(self, step, after, load):
        """The track with the watch of a leaf whose back is chosen; None if it has the print of a marked leaf."""
        node, side, spot, count = step.place
        shadows = self.tracker.shadows
        if count > 0 or spot - 1 not in shadows.marked:
            return step.track
        first = step.sheets[0][0]
        if first[0] >= self.layout.body:
            same = shadows.is_same_list(step.track.flags, spot - 1, first[0], node[0], after[0])
            return None if same else step.track
        track = step.track.copied()
        track.watches = tuple([watch for watch in track.watches if watch[1]])
        pairs = shadows.pages_alike(spot - 1, 1, node, after, load)
        for j, whole, open_pairs in step.track.watches:
            if not whole and pairs is not None:
                track.watches = (*track.watches, (j, True, open_pairs + pairs))
        return track if load is not None or are_watched(track.watches) else None

    def _kept_steps(self, step):
        """The steps over a kept leaf."""
        node, side, spot, count = step.place
        steps = []
        if node[0] >= self.layout.body:
            for fit, wrong in self.bounds.list_fits(node[0], spot, step.track.wrongs, step.track.alive):
                if count == 0 or fit.j == spot:
                    steps.append(self._kept_entries(step, fit, wrong))
        else:
            for j in range(spot, len(self.layout.papers) if count == 0 else min(spot + 1, len(self.layout.papers))):
                if not self.bounds.may_pass(spot, j):
                    break
                steps.extend([self._kept_blocks(step, j, fit) for fit in self.layout.fits(j, node)])
        return [further for further in steps if further is not None and self._may_be(further)]

    def _kept_blocks(self, step, j, fit):
        """The step over an old leaf of blocks; None if it may not come."""
        track = self._labelled(step, j, step.track.copied())
        label = self.layout.row.told[j]
        front = None if track is None else self._paged(track, (label, 0), fit.front, fit.middle)
        if front is None:
            return None
        back = (emptied(front[0]), 0)
        if self.layout.papers[j].rows[1]:
            back = self._paged(front[0], (label, 1), fit.back, fit.after)
        if back is None:
            return None
        pages = ((step.place[0], fit.middle, fit.front), (fit.middle, fit.after, fit.back))
        return Step(step, (fit.after, 0, j + 1, 0), back[0], step.cost + front[1] + back[1], step.leaves + 1, pages, j)

    def _kept_entries(self, step, fit, wrong):
        """The step over an old leaf of a list, on which so many tokens are wrong; None if it may not come."""
        track = emptied(step.track)
        track.alive = tuple([KEPT if other == fit else state
                             for other, state in zip(self.listing.index_fits, track.alive)])
        track = self._labelled(step, fit.j, track)
        if track is None:
            return None
        for side in (0, 1):
            page = (self.layout.row.told[fit.j], side)
            if self.layout.papers[fit.j].rows[side] and not self.tracker.note_page(track, page, 0):
                return None
        cost = step.cost + (wrong * self.tracker.stroke if wrong else 0)
        place = ((fit.after, 0, 0), 0, fit.j + 1, 0)
        middle = (fit.middle, 0, 0)
        sheets = ((step.place[0], middle, None), (middle, place[0], None))
        return Step(step, place, track, cost, step.leaves + 1, sheets, fit.j)

    def _labelled(self, step, j, track):
        """The track with the label of a leaf that is kept behind a step; None if it may not come."""
        node, side, spot, count = step.place
        row = self.layout.row
        if not self.tracker.note_label(track, row.last_label(spot, count), row.told[j]):
            return None
        self.tracker.drop(track, j + 1)
        return track

    def _may_be(self, step):
        """Whether a step does not end a way at a place where it may not end."""
        if not self._is_end(step):
            return True
        node, side, spot, count = step.place
        if count > 0 and spot < len(self.layout.papers):
            return False
        return self.tracker.note_label(step.track, self.layout.row.last_label(spot, count), None)


def emptied(track):
    """A track behind a page on which no pointer stands."""
    track = track.copied()
    track.near = ()
    return track
