"""The ways in which the rows of a block can be cut, as its pointers are wide or narrow."""

from afterleaves.filling import ends_text
from afterleaves.lines import row_ends, token_width
from afterleaves.printing import Printed

# A digit is one wide, and no word has one: so many of them stand for a token of a pointer that is so wide.
DIGIT = "0"


class Shape:
    """One way to cut the rows of a block, and all choices of widths of its pointers that lead to it.

    Rows are tuples of tokens, and tall tells their heights; owns tells of each row the pairs of item and word of
    the pointers in it.
    """

    def __init__(self, text, k, form, items, vectors):
        printed = Printed(text, k, tuple([DIGIT * width for width in vectors[0]]), form)
        self.rows = tuple([tuple(row.split(" ")) for row in printed.rows])
        self.feet = printed.feet
        self.tall = printed.heights
        self.ends = printed.ends[:-1] + (printed.ends[-1] or ends_text(text, k),)
        self.vectors = tuple(vectors)
        self.owns = _row_owns(self.rows, items)


def _row_owns(rows, items):
    """For each row the pairs of item and word of the pointers that stand in it."""
    owns = []
    first = 0
    for row in rows:
        # The number of the block stands ahead of the items.
        owns.append(tuple([(item, item + 1 - first) for item in items if first <= item + 1 < first + len(row)]))
        first = first + len(row)
    return tuple(owns)


def block_shapes(text, k, form, items, options):
    """The shapes of a plain block whose pointers stand at these items and can have the widths of the options."""
    vectors = [()]
    for widths in options:
        vectors = [(*vector, width) for vector in vectors for width in widths]
    printed = Printed(text, k, tuple([DIGIT for item in items]), form) if items else None
    if printed is None:
        return (Shape(text, k, form, (), [()]),)
    base = [token_width(token) for row in printed.rows for token in row.split(" ")]
    groups = {}
    for vector in vectors:
        for item, width in zip(items, vector):
            base[item + 1] = width
        if max(vector) <= form.width:
            groups.setdefault(_cuts(row_ends(base, form.width)), []).append(vector)
    return tuple([Shape(text, k, form, items, groups[cuts]) for cuts in groups])


def _cuts(ends):
    """The indexes behind the rows, told for each token the one behind the row that begins with it."""
    cuts = []
    first = 0
    while first < len(ends):
        first = ends[first]
        cuts.append(first)
    return tuple(cuts)
