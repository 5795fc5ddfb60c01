"""The least price at which a way to a successor can go on, were all tokens true and of the best width."""

from afterleaves.tracking import DEAD, OPEN

NEVER = 1000000000


class Bounds:
    """Bounds for a layout with its listing; some leaves must be kept, told by their indexes."""

    def __init__(self, layout, listing, leaf, stroke, wanted):
        self.layout = layout
        self.listing = listing
        self.leaf = leaf
        self.stroke = stroke
        self.wanted = wanted
        self._lists = {}
        self._nodes = {}
        self._bound = {}
        self._fewest = {}
        self._most = {}
        self._count()

    def may_pass(self, spot, j):
        """Whether the leaf j may be the next one to be kept of those from the spot on."""
        return not any([spot <= other < j for other in self.wanted])

    def _count(self):
        """Fills the tables for the nodes of the blocks, from the last one to the first one."""
        layout = self.layout
        end = (layout.body, 0, 0)
        rest = range(len(layout.papers) + 1)
        for side in (0, 1):
            self._nodes[(end, side)] = [0 for _ in rest]
            self._bound[(end, side)] = [0 if self._in_list(spot) else NEVER for spot in rest]
            self._fewest[(end, side)] = 0
            self._most[(end, side)] = 0
        for node in self._nodes_from_the_end():
            fronts = [(after, 1) for after, load in layout.pages_from(node)]
            backs = [(after, 0) for after, side in fronts if layout.may_begin(node, False)] + [(node, 0)]
            self._fewest[(node, 0)] = 1 + min([self._fewest[place] for place in fronts] + [NEVER])
            self._most[(node, 0)] = 1 + max([self._most[place] for place in fronts] + [0])
            self._nodes[(node, 0)] = self._front_row(node, fronts)
            self._bound[(node, 0)] = self._bound_row(node, fronts)
            self._fewest[(node, 1)] = min([self._fewest[place] for place in backs])
            self._most[(node, 1)] = max([self._most[place] for place in backs])
            self._nodes[(node, 1)] = [min([self._nodes[place][spot] for place in backs]) for spot in rest]
            self._bound[(node, 1)] = [min([self._bound[place][spot] for place in backs]) for spot in rest]

    def _nodes_from_the_end(self):
        """All nodes at which a page can begin, the last one first."""
        nodes = []
        for unit in reversed(range(self.layout.body)):
            for number, shape in enumerate(self.layout.shapes[unit]):
                nodes.extend([(unit, number, row) for row in range(len(shape.rows) - 1, 0, -1) if shape.ends[row - 1]])
            nodes.append((unit, 0, 0))
        return nodes

    def _front_row(self, node, fronts):
        """The bounds at a node ahead of a front, for each spot."""
        count = len(self.layout.papers)
        row = [NEVER] * (count + 1)
        for spot in reversed(range(count + 1)):
            bound = self.leaf + min([self._nodes[place][spot] for place in fronts] + [NEVER])
            if spot < count:
                kept = [self._nodes[(fit.after, 0)][spot + 1] for fit in self.layout.fits(spot, node)]
                bound = min([bound] + kept)
                if spot not in self.wanted:
                    bound = min(bound, row[spot + 1])
            row[spot] = bound
        return row

    def _bound_row(self, node, fronts):
        """The bounds at a node ahead of a front, for each spot that must be the next one to be kept."""
        row = []
        for spot in range(len(self.layout.papers) + 1):
            bound = self.leaf + min([self._bound[place][spot] for place in fronts] + [NEVER])
            if spot < len(self.layout.papers):
                bound = min([bound] + [self._nodes[(fit.after, 0)][spot + 1] for fit in self.layout.fits(spot, node)])
            row.append(bound)
        return row

    def _in_list(self, spot):
        """Whether the leaf of the spot fits in a list; behind the last leaf nothing need be kept."""
        fits = self.listing.contents_fits + self.listing.index_fits
        return spot == len(self.layout.papers) or any([fit.j == spot for fit in fits])

    def _still_in_list(self, unit, spot, track):
        """Whether the leaf of the spot may still be kept in a list from the unit on."""
        fits = [fit for fit, wrong in zip(self.listing.contents_fits, track.wrongs) if wrong != DEAD]
        fits.extend([fit for fit, state in zip(self.listing.index_fits, track.alive) if state == OPEN])
        return spot == len(self.layout.papers) or any([fit.j == spot and fit.first >= unit for fit in fits])

    def fewest_leaves(self, node, side):
        """No more than the leaves that are needed from a node on."""
        if node[0] < self.layout.body:
            return self._fewest[(node, side)] + self._fewest_lists(self.listing.contents_first)
        return self._fewest_lists(node[0])

    def _fewest_lists(self, unit):
        """No more than the leaves that the lists need from a unit on; an entry that has begun a list is not counted."""
        lists = ((self.listing.contents_first, self.listing.index_first), (self.listing.index_first, self.listing.end))
        return len([first for first, last in lists if unit <= first < last])

    def most_leaves(self, node, side):
        """No fewer than the leaves that can come from a node on."""
        blocks = self._most[(node, side)] if node[0] < self.layout.body else 0
        return blocks + self.listing.end - max(node[0], self.layout.body)

    def bound_at(self, place, track, rows):
        """The bound at a place; rows tells of each entry that is ahead how many rows it has at least."""
        node, side, spot, count = place
        if node[0] < self.layout.body:
            # Leaves that must be kept may be kept for blocks, and the lists then begin behind them.
            spots = [spot] + [j + 1 for j in self.wanted if j >= spot]
            table = self._bound if count > 0 else self._nodes
            lists = [self._listed(self.listing.contents_first, 0, begin, rows, track.wrongs, track.alive)
                     for begin in spots]
            return table[(node, side)][spot] + min(lists)
        if count > 0 and not self._still_in_list(node[0], spot, track):
            return NEVER
        return self._listed(node[0], side, spot, rows, track.wrongs, track.alive)

    def _listed(self, unit, side, spot, rows, wrongs, alive):
        """The bound for the lists from a unit on."""
        place = (unit, side, spot, rows, wrongs, alive)
        if place not in self._lists:
            self._lists[place] = self._count_listed(unit, side, spot, rows, wrongs, alive)
        return self._lists[place]

    def _count_listed(self, unit, side, spot, rows, wrongs, alive):
        if unit == self.listing.end:
            return 0 if self.may_pass(spot, len(self.layout.papers)) else NEVER
        pages = self.list_pages(unit, rows)
        if side == 1:
            bound = self._listed(unit, 0, spot, rows, wrongs, alive)
            if self.listing.must_begin(unit):
                return bound
            return min([bound] + [self._listed(after, 0, spot, rows[after - unit:], wrongs, alive) for after in pages])
        bounds = [self.leaf + self._listed(after, 1, spot, rows[after - unit:], wrongs, alive) for after in pages]
        for fit, wrong in self.list_fits(unit, spot, wrongs, alive):
            price = 0 if wrong == 0 else wrong * self.stroke
            bounds.append(price + self._listed(fit.after, 0, fit.j + 1, rows[fit.after - unit:], wrongs, alive))
        return min(bounds + [NEVER])

    def list_pages(self, unit, rows):
        """The units behind all new pages that begin at a unit of a list; rows are those of the units from it on."""
        last = self.listing.index_first if unit < self.listing.index_first else self.listing.end
        found = []
        used = 0
        for count in range(last - unit):
            used = used + rows[count]
            if used > self.layout.form.height:
                break
            found.append(unit + count + 1)
        return found

    def list_fits(self, unit, spot, wrongs, alive):
        """The pairs of fit and number of strokes for the old leaves that may be kept at a unit of a list."""
        found = [(fit, wrong) for fit, wrong in zip(self.listing.contents_fits, wrongs) if wrong != DEAD]
        found.extend([(fit, 0) for fit, state in zip(self.listing.index_fits, alive) if state == OPEN])
        return [(fit, wrong) for fit, wrong in found
                if fit.first == unit and fit.j >= spot and self.may_pass(spot, fit.j)]
