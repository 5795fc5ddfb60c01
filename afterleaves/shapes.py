"""The ways in which the rows of a block can be cut, as its pointers are wide or narrow."""

from afterleaves.filling import ends_text
from afterleaves.lines import fill_ends, token_width
from afterleaves.printing import Printed

# A digit is one wide, and no word has one: so many of them stand for a token of a pointer that is so wide.
DIGIT = "0"


class Shape:
    """One way to cut the rows of a block, and all choices of widths of its pointers that lead to it.

    Rows are tuples of tokens, and tall tells their heights; owns tells of each row the pairs of item and word of
    the pointers in it.
    """

    def __init__(self, text, k, form, items, vectors):
        printed = Printed(text, k, tuple([DIGIT * width for width in vectors[0]]), form)
        self.rows = tuple([tuple(row.split(" ")) for row in printed.rows])
        self.feet = printed.feet
        self.tall = printed.heights
        self.ends = printed.ends[:-1] + (printed.ends[-1] or ends_text(text, k),)
        self.vectors = tuple(vectors)
        self.owns = _row_owns(self.rows, items)


def _row_owns(rows, items):
    """For each row the pairs of item and word of the pointers that stand in it."""
    owns = []
    first = 0
    for row in rows:
        # The number of the block stands ahead of the items.
        owns.append(tuple([(item, item + 1 - first) for item in items if first <= item + 1 < first + len(row)]))
        first = first + len(row)
    return tuple(owns)


class ShapeStore:
    """The shapes of blocks in a format; they are found once, though the blocks stand in several texts."""

    def __init__(self, form):
        self.form = form
        self._found = {}

    def block_shapes(self, text, k, items, options):
        """The shapes of a plain block whose pointers stand at these items and can have the widths of the options."""
        key = (text.blocks[k], text.numbers[k], ends_text(text, k), tuple([tuple(widths) for widths in options]))
        if key not in self._found:
            self._found[key] = _block_shapes(text, k, self.form, items, options)
        return self._found[key]


def _block_shapes(text, k, form, items, options):
    if not items:
        return (Shape(text, k, form, (), [()]),)
    printed = Printed(text, k, tuple([DIGIT for item in items]), form)
    base = [token_width(token) for row in printed.rows for token in row.split(" ")]
    groups = {}
    for vector, ends in _all_ends(base, items, options, form.width):
        groups.setdefault(_cuts(ends), []).append(vector)
    return tuple([Shape(text, k, form, items, groups[cuts]) for cuts in groups])


def _all_ends(base, items, options, width):
    """The pairs of vector and ends of rows for all choices of widths, in their order.

    Rows are cut from their end on: what stands behind a pointer is cut once for all widths that it can have.
    """
    count = len(base)
    rests = [((), base, [0] * count, [count] * count)]
    behind = count
    for item, widths in list(zip(items, options))[::-1]:
        # The number of the block stands ahead of the items.
        spot = item + 1
        for vector, tokens, costs, ends in rests:
            fill_ends(tokens, width, costs, ends, (spot + 1, behind))
        rests = [((wide, *vector), [*tokens[:spot], wide, *tokens[spot + 1:]], list(costs), list(ends))
                 for vector, tokens, costs, ends in rests for wide in widths if wide <= width]
        behind = spot + 1
    for vector, tokens, costs, ends in rests:
        fill_ends(tokens, width, costs, ends, (0, behind))
    return sorted([(vector, ends) for vector, tokens, costs, ends in rests])


def _cuts(ends):
    """The indexes behind the rows, told for each token the one behind the row that begins with it."""
    cuts = []
    first = 0
    while first < len(ends):
        first = ends[first]
        cuts.append(first)
    return tuple(cuts)
