"""The leaves of an old book, and how they fit the rows of a text."""

from afterleaves.reading import is_foot_row


class Paper:
    """The rows of an old leaf: for each side the tokens of the text rows, and the foot rows behind them."""

    def __init__(self, leaf):
        self.leaf = leaf
        self.rows = []
        self.feet = []
        for side in (0, 1):
            rows = leaf.side_rows(side)
            count = 0
            while count < len(rows) and not is_foot_row(rows[count]):
                count = count + 1
            self.rows.append(tuple([tuple(row.split(" ")) for row in rows[:count]]))
            self.feet.append(rows[count:])

    def fits(self, height):
        """Whether the leaf can stand in a book of this height at all."""
        sizes = [len(self.leaf.side_rows(side)) for side in (0, 1)]
        if max(sizes) > height or not self.rows[0]:
            return False
        return sizes[1] == 0 or len(self.rows[1]) > 0

    def spoilt_at(self, places):
        """Whether a stroke says something else than the print at a place that is not among these."""
        for side, row, word, token in self.leaf.pen:
            if (side, row, word) not in places and self.leaf.side_rows(side)[row].split(" ")[word] != token:
                return True
        return False

    def is_marked(self):
        """Whether the leaf says anything else than its print."""
        return self.spoilt_at({})


class Load:
    """What a page holds: the pointers on it, each with its printed and said token if the page is an old one,
    the blocks and shapes that begin on it, and the terms that stand on it, as bits of a number."""

    def __init__(self, owns, starts, mask):
        self.owns = owns
        self.starts = starts
        self.mask = mask
        self.goals = ()
        self.paras = ()
        self.heads = ()
        self.touched = ()


class Fit:
    """An old leaf that fits: the nodes behind its front and its back, and what the two pages hold."""

    def __init__(self, middle, after, front, back):
        self.middle = middle
        self.after = after
        self.front = front
        self.back = back
