"""Leaves of paper: what is printed on them, and what is written on them by pen."""

from afterleaves.errors import BadLeaf
from afterleaves.forms import is_sized, is_tuple, is_within
from afterleaves.labels import judged_label

MOST_ROWS = 12
MOST_TOKENS = 30
MOST_SIGNS = 20
LONGEST_ROW = 120


class Leaf:
    """A leaf with a label, rows on its front and back, and pen strokes."""

    def __init__(self, label, front, back, pen=()):
        self.label = judged_label(label)
        self.front = _judged_rows(front, 1, "front")
        self.back = _judged_rows(back, 0, "back")
        self.pen = _judged_pen(self.front, self.back, pen)
        self._strokes = {stroke[:3]: stroke[3] for stroke in self.pen}

    def __eq__(self, other):
        return (isinstance(other, Leaf) and self.label == other.label and self.front == other.front
                and self.back == other.back and self.pen == other.pen)

    def side_rows(self, side):
        """The printed rows of a side."""
        return self.back if side == 1 else self.front

    def says(self, side, row, word):
        """The token that the leaf says at a place, or None if it has no such place."""
        if not _is_place(self.front, self.back, (side, row, word)):
            return None
        printed = self.side_rows(side)[row].split(" ")[word]
        return self._strokes.get((side, row, word), printed)

    def said_rows(self, side):
        """The rows of a side as tuples of the tokens that the leaf says."""
        said = []
        for row, printed in enumerate(self.side_rows(side)):
            said.append(tuple([self._strokes.get((side, row, word), token)
                               for word, token in enumerate(printed.split(" "))]))
        return tuple(said)

    def same_print(self, other):
        """Whether label, front and back are those of the other leaf."""
        return self.label == other.label and self.front == other.front and self.back == other.back

    def penned(self, strokes):
        """The leaf with further strokes, in the place of its own ones where they meet."""
        kept = _kept_strokes(strokes)
        # Two of them at one place would hide each other in the table.
        if kept is None or len(set([stroke[:3] for stroke in kept])) < len(kept):
            raise BadLeaf("pen")
        table = {place: self._strokes[place] for place in self._strokes}
        for stroke in kept:
            table[stroke[:3]] = stroke[3]
        return Leaf(self.label, self.front, self.back, sorted([(*place, table[place]) for place in table]))


def is_token(thing):
    """Whether a thing is a token that paper can bear."""
    return isinstance(thing, str) and 1 <= len(thing) <= MOST_SIGNS and " " not in thing


def _is_row(thing):
    """Whether a thing is a row on paper."""
    if not isinstance(thing, str) or len(thing) > LONGEST_ROW:
        return False
    tokens = thing.split(" ")
    return len(tokens) <= MOST_TOKENS and all([is_token(token) for token in tokens])


def _judged_rows(rows, least, side):
    if not is_sized(rows, least, MOST_ROWS) or not all([_is_row(row) for row in rows]):
        raise BadLeaf(side)
    return tuple(rows)


def _judged_pen(front, back, pen):
    """The strokes as tuples; BadLeaf if one may not stand, or if they are not ascending."""
    strokes = _kept_strokes(pen)
    if strokes is None or not all([_is_place(front, back, stroke[:3]) for stroke in strokes]):
        raise BadLeaf("pen")
    if not all([one[:3] < other[:3] for one, other in zip(strokes, strokes[1:])]):
        raise BadLeaf("pen")
    return strokes


def _kept_strokes(strokes):
    """The strokes as tuples, or None if they are no tuple of things with the form of strokes."""
    if not is_tuple(strokes) or not all([_is_stroke(stroke) for stroke in strokes]):
        return None
    return tuple([tuple(stroke) for stroke in strokes])


def _is_stroke(thing):
    if not is_sized(thing, 4, 4) or not is_token(thing[3]):
        return False
    return (is_within(thing[0], 0, 1) and is_within(thing[1], 0, MOST_ROWS - 1)
            and is_within(thing[2], 0, MOST_TOKENS - 1))


def _is_place(front, back, place):
    """Whether a token is printed at this place, a side with row and word, of the two sides."""
    side, row, word = place
    rows = back if side == 1 else front
    return side in (0, 1) and 0 <= row < len(rows) and 0 <= word < len(rows[row].split(" "))
