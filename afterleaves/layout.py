"""All ways in which the rows of the heads, paragraphs and figures of a text can stand on pages, new or old.

A node is a place between two rows: (unit, shape, row), where a unit is a block, and behind the blocks an entry
of a list. Ahead of the first row of a unit its shape is open, and the node has the shape 0.
"""

from afterleaves.blocks import must_begin_leaf
from afterleaves.filling import plain_spots
from afterleaves.labelrow import LabelRow
from afterleaves.lines import row_width, token_width
from afterleaves.papers import Fit, Load, Paper
from afterleaves.points import Choices, find_tokens, text_points
from afterleaves.printing import DRAWN, Printed
from afterleaves.reading import has_pointer_form

WIDEST = 20


class Layout:
    """The rows of a text, with an old book whose leaves may be kept."""

    def __init__(self, text, store, old):
        self.text = text
        self.store = store
        self.form = store.form
        self.old = old
        self.papers = [Paper(leaf) for leaf in old]
        self.row = LabelRow(old.labels)
        self.points = text_points(text)
        find_tokens(self.points, text, old)
        self.body = len(plain_spots(text))
        self.terms = [term for block in text.blocks if block[0] == "index" for term in block[2]]
        self.widths = self.row.page_widths(self._most_leaves())
        self.choices = Choices()
        self.holders = sorted(set([point.block for point in self.points]))
        self.shapes = [self._unit_shapes(k) for k in range(self.body)]
        self.masks = [[[self._mask(row) for row in shape.rows] for shape in shapes] for shapes in self.shapes]
        self.begins = [must_begin_leaf(text.blocks[k]) for k in range(self.body)]
        self._pages = {}
        self._fits = {}

    def _most_leaves(self):
        """No fewer than the leaves that a book of the text can have."""
        count = 0
        for k in range(self.body):
            told = tuple(["0" * WIDEST for point in self.points if point.block == k])
            rows = Printed(self.text, k, told, self.form).rows
            # Two rows that follow each other never have room in one, so that there are no more rows than these.
            width = sum([row_width(row) + 1 for row in rows if row != DRAWN])
            count = count + max(1, 2 * (width // self.form.width) + 1)
        return count + len(self.text.blocks) + len(self.terms)

    def _unit_shapes(self, k):
        points = [point for point in self.points if point.block == k]
        options = [point.all_widths(self.widths, self.form.near) for point in points]
        return self.store.block_shapes(self.text, k, [point.item for point in points], options)

    def _mask(self, row):
        return sum([1 << bit for bit, term in enumerate(self.terms) if term in row])

    def node_behind(self, node):
        """The node behind the row that follows a node whose shape is told."""
        unit, shape, row = node
        if row + 1 < len(self.shapes[unit][shape].rows):
            return (unit, shape, row + 1)
        return (unit + 1, 0, 0)

    def choosing(self, node):
        """The nodes with a shape that a node can be."""
        unit, shape, row = node
        if row > 0:
            return [node]
        return [(unit, other, 0) for other in range(len(self.shapes[unit]))]

    def may_begin(self, node, fresh):
        """Whether a row may stand behind a node; fresh tells that it would be the first one of a front."""
        return node[0] < self.body and (fresh or node[2] > 0 or not self.begins[node[0]])

    def pages_from(self, node):
        """The pairs of node behind and load of all new pages that begin at a node."""
        if node not in self._pages:
            self._pages[node] = self._new_pages(node)
        return self._pages[node]

    def _new_pages(self, node):
        found = []
        open_pages = [(node, 0, ((), (), 0))]
        while open_pages:
            first, used, held = open_pages.pop()
            if not self.may_begin(first, used == 0):
                continue
            for place in self.choosing(first):
                shape = self.shapes[place[0]][place[1]]
                height = used + shape.tall[place[2]]
                if height > self.form.height:
                    continue
                owns = tuple([(self.point_at(place[0], item), None, None) for item, word in shape.owns[place[2]]])
                further = self._held(held, place, owns)
                if shape.ends[place[2]]:
                    found.append((self.node_behind(place), self.load(*further)))
                open_pages.append((self.node_behind(place), height, further))
        return found

    def point_at(self, k, item):
        """The index of the pointer at this item of a paragraph."""
        return [point.item if point.block == k else None for point in self.points].index(item)

    def _held(self, held, place, owns):
        """What a page holds with the row behind a place besides: its owns, the starts of blocks, the mask of terms."""
        owned, starts, mask = held
        if place[2] == 0:
            starts = (*starts, place[:2])
        return (owned + owns, starts, mask | self.masks[place[0]][place[1]][place[2]])

    def load(self, owns, starts, mask):
        """The load of a page."""
        load = Load(owns, starts, mask)
        units = [unit for unit, shape in starts]
        load.goals = tuple([(p, which) for p, point in enumerate(self.points)
                            for which, goal in enumerate(point.goals) if goal in units])
        load.paras = tuple([(self.holders.index(unit), self.choices.numbered(self.shapes[unit][shape].vectors))
                            for unit, shape in starts if unit in self.holders])
        load.heads = tuple([unit for unit in units if self.text.blocks[unit][0] == "head"])
        load.touched = tuple(sorted(set([own[0] for own in owns] + [p for p, which in load.goals])))
        return load

    def fits(self, j, node):
        """All ways in which the old leaf j fits behind a node of a block."""
        if (j, node) not in self._fits:
            self._fits[(j, node)] = self._leaf_fits(j, node)
        return self._fits[(j, node)]

    def _leaf_fits(self, j, node):
        paper = self.papers[j]
        if not paper.fits(self.form.height):
            return []
        found = []
        for middle, front, first_places in self.side_fits(paper, 0, node):
            for after, back, last_places in self.side_fits(paper, 1, middle):
                if not paper.spoilt_at({place: True for place in first_places + last_places}):
                    found.append(Fit(middle, after, self.load(*front), self.load(*back)))
        return found

    def side_fits(self, paper, side, node):
        """For all ways in which a side fits behind a node the node behind, what is held, and the places of pointers."""
        partly = [(node, True, (), ((), (), 0), ())]
        for spot in range(len(paper.rows[side])):
            partly = [further for part in partly for further in self._row_fits(paper, side, spot, part)]
        return [(place, held, places) for place, end, feet, held, places in partly if end and feet == paper.feet[side]]

    def _row_fits(self, paper, side, spot, part):
        """The ways in which the next row of a side fits behind a part of it."""
        node, end, feet, held, places = part
        found = []
        if not self.may_begin(node, side == 0 and spot == 0):
            return found
        for place in self.choosing(node):
            shape = self.shapes[place[0]][place[1]]
            owns = self._row_owns(paper, side, spot, place)
            if owns is not None:
                pointers = tuple([(side, spot, word) for item, word in shape.owns[place[2]]])
                found.append((self.node_behind(place), shape.ends[place[2]], feet + shape.feet[place[2]],
                              self._held(held, place, owns), places + pointers))
        return found

    def _row_owns(self, paper, side, spot, place):
        """The pointers in a row of an old leaf, if it is the row behind the place, else None."""
        unit, number, row = place
        shape = self.shapes[unit][number]
        tokens = list(paper.rows[side][spot])
        if len(tokens) != len(shape.rows[row]):
            return None
        owns = []
        for item, word in shape.owns[row]:
            p = self.point_at(unit, item)
            if not has_pointer_form(self.text.blocks[unit][2][item], tokens[word]):
                return None
            owns.append((p, tokens[word], paper.leaf.says(side, spot, word)))
            tokens[word] = shape.rows[row][word]
        if tuple(tokens) != shape.rows[row] or not self._has_widths(shape, owns):
            return None
        return tuple(owns)

    def _has_widths(self, shape, owns):
        """Whether tokens of these widths can stand in the shape."""
        widths = [(self.points[p].turn, token_width(printed)) for p, printed, said in owns]
        return any([all([vector[spot] == width for spot, width in widths]) for vector in shape.vectors])
