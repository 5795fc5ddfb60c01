"""The pointers of a text, and the choices of widths that are left to those of a paragraph."""

from afterleaves.blocks import is_note, is_pointer
from afterleaves.labels import write_page
from afterleaves.leaves import MOST_SIGNS
from afterleaves.lines import token_width
from afterleaves.looker import FACING, HERE, OVERLEAF
from afterleaves.printing import MARK, STOP
from afterleaves.reading import has_pointer_form, is_foot_row


class Point:
    """A pointer: where it stands in the text and in its paragraph, and where it leads.

    Its printed and said tokens are those that the leaves of an old book have where rows of its paragraph may be;
    to those that are said come those that are printed below a stroke.
    """

    def __init__(self, text, k, item, turn):
        self.block = k
        self.item = item
        self.turn = turn
        self.goals = text.targets(k, item)
        self.span = len(self.goals) == 2
        self.number = text.numbers[self.goals[0]]
        self.printed = []
        self.said = []

    def near_token(self, word):
        """The token with a near word."""
        return f"{self.number}/{word}"

    def far_token(self, page):
        """The token with a written page."""
        return f"{self.number}/{write_page(page)}"

    def all_widths(self, pages, near):
        """All widths that the token can have, for the widths that written pages can have."""
        found = [token_width(token) for token in self.printed]
        if self.span:
            found.extend(pages)
            found.extend([first + 1 + last for first in pages for last in pages])
        else:
            words = [len(word) for word in (HERE, OVERLEAF, FACING)] if near else []
            found.extend([len(self.number) + 1 + width for width in pages + words])
        return [width for width in sorted(set(found)) if width <= 2 * MOST_SIGNS]


def text_points(text):
    """All pointers of a text, in order."""
    points = []
    for k, item in text.pointers():
        turn = len([point for point in points if point.block == k])
        points.append(Point(text, k, item, turn))
    return points


def find_tokens(points, text, old):
    """Finds the printed and said tokens of the pointers on the leaves of an old book."""
    for leaf in old:
        for side in (0, 1):
            for row, said in zip(leaf.side_rows(side), leaf.said_rows(side)):
                if is_foot_row(row):
                    break
                for k in sorted(set([point.block for point in points])):
                    _find_in_row([point for point in points if point.block == k], text, row.split(" "), said)


def _find_in_row(points, text, row, said):
    """Finds the tokens of the pointers of one block in a row, wherever the row may be one of the block."""
    k = points[0].block
    pattern = (text.numbers[k], *text.blocks[k][2], STOP)
    for first in range(len(pattern) - len(row) + 1):
        if not all([_is_token(thing, token) for thing, token in zip(pattern[first:], row)]):
            continue
        for point in points:
            word = point.item + 1 - first
            if 0 <= word < len(row):
                point.printed.append(row[word])
                point.said.extend(sorted(set([row[word], said[word]])))


def _is_token(thing, token):
    """Whether a token may stand for an item of a paragraph, its number or its stop."""
    if is_pointer(thing):
        return has_pointer_form(thing, token)
    return token == (MARK if is_note(thing) else thing)


class Choices:
    """Sets of choices of widths, each a number: 0 is the set in which nothing is open."""

    def __init__(self):
        self._sets = [()]
        self._numbers = {(): 0}
        self._cuts = {}

    def numbered(self, vectors):
        """The number of a set of vectors, in which None stands for a width that matters no more."""
        kept = tuple(sorted(list({vector: True for vector in vectors}), key=_order))
        if all([width is None for vector in kept for width in vector]):
            kept = ()
        if kept not in self._numbers:
            self._numbers[kept] = len(self._sets)
            self._sets.append(kept)
        return self._numbers[kept]

    def cut(self, number, spot, width):
        """The set of those choices that have this width at the spot, which is then told; None if there are none."""
        place = (number, spot, width)
        if place not in self._cuts:
            left = [vector for vector in self._sets[number] if vector[spot] == width]
            told = [vector[:spot] + (None,) + vector[spot + 1:] for vector in left]
            self._cuts[place] = self.numbered(told) if told else None
        return self._cuts[place]


def _order(vector):
    return tuple([-1 if width is None else width for width in vector])
