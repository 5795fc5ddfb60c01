"""Books and binders: leaves in the order of their labels."""

from afterleaves.errors import BadBook, BadOrder, TooMany, Unknown
from afterleaves.forms import is_tuple
from afterleaves.labels import kept_label, kept_page
from afterleaves.leaves import Leaf
from afterleaves.printing import FOOT

MOST_LEAVES = 60


class Book:
    """A row of leaves with ascending labels."""

    def __init__(self, leaves):
        self.leaves = _judged_leaves(leaves)
        self._spots = {leaf.label: k for k, leaf in enumerate(self.leaves)}

    @property
    def labels(self):
        """The labels of the leaves."""
        return tuple([leaf.label for leaf in self.leaves])

    def __contains__(self, label):
        return kept_label(label) in self._spots

    def __getitem__(self, label):
        kept = kept_label(label)
        if kept not in self._spots:
            raise Unknown(label)
        return self.leaves[self._spots[kept]]

    def __len__(self):
        return len(self.leaves)

    def __iter__(self):
        return iter(self.leaves)

    def __eq__(self, other):
        return isinstance(other, Book) and self.leaves == other.leaves

    def pages(self):
        """All pages, in order."""
        return tuple([(leaf.label, side) for leaf in self.leaves for side in (0, 1)])

    def facing(self, page):
        """The page that faces this one, or None."""
        label, side = self._judged_page(page)
        spot = self._spots[label] + (1 if side == 1 else -1)
        if not 0 <= spot < len(self.leaves):
            return None
        return (self.leaves[spot].label, 1 - side)

    def text_rows(self, page):
        """The text rows of a page as tuples of the tokens that are said."""
        label, side = self._judged_page(page)
        leaf = self[label]
        count = 0
        for row in leaf.side_rows(side):
            if row.split(" ")[0] == FOOT:
                break
            count = count + 1
        return leaf.said_rows(side)[:count]

    def same_print(self, other):
        """Whether the other book has leaves with the same labels and prints."""
        if self.labels != other.labels:
            return False
        return all([one.same_print(two) for one, two in zip(self.leaves, other.leaves)])

    def _judged_page(self, page):
        kept = kept_page(page)
        if kept is None or kept[0] not in self._spots:
            raise Unknown(page)
        return kept


def _judged_leaves(leaves):
    if not is_tuple(leaves) or not all([isinstance(leaf, Leaf) for leaf in leaves]):
        raise BadBook()
    if len(leaves) > MOST_LEAVES:
        raise TooMany("leaf")
    for k in range(1, len(leaves)):
        if leaves[k].label <= leaves[k - 1].label:
            raise BadOrder(k)
    return tuple(leaves)


def leaf_print(leaf):
    """What is printed on a leaf: its label, front and back."""
    return (leaf.label, leaf.front, leaf.back)


def book_print(book):
    """What is printed on the leaves of a book."""
    return tuple([leaf_print(leaf) for leaf in book])


def is_kept(book, leaf):
    """Whether a book has a leaf with the same label and print."""
    return leaf.label in book and leaf.same_print(book[leaf.label])
