"""Which leaves of an old book can stay, alone and together, when nothing may be corrected by pen."""

from afterleaves.books import is_kept
from afterleaves.errors import Unknown
from afterleaves.layout import Layout
from afterleaves.listing import Listing
from afterleaves.renewal import any_book, cheapest, judge_sizes
from afterleaves.search import Search
from afterleaves.shapes import ShapeStore


class Stayers:
    """What is known of the leaves of an old book that can stay together; they are told by their indexes."""

    def __init__(self, old, text, form):
        self.old = old
        self.layout = Layout(text, ShapeStore(form), old)
        self.listing = Listing(self.layout)
        self._found = []

    def cheapest_book(self, wanted):
        """A successor that keeps all these leaves, with the fewest new ones, or None."""
        return cheapest(self._search(wanted))

    def _search(self, wanted):
        """The search for successors that keep all these leaves."""
        return Search(self.layout, self.listing, 1, None, wanted)

    def can_stay(self, wanted):
        """Whether these leaves can stay together."""
        for kept in self._found:
            if all([j in kept for j in wanted]):
                return True
        book = any_book(self._search(wanted))
        if book is None:
            return False
        self._found.append([self.old.labels.index(leaf.label) for leaf in book if is_kept(self.old, leaf)])
        return True


def staying(old, labels, text, form):
    """A successor without strokes that keeps the leaves with these labels, and has the fewest new leaves; or None."""
    judge_sizes(old, text)
    for label in labels:
        if label not in old:
            raise Unknown(label)
    kept = [old[label].label for label in labels]
    return Stayers(old, text, form).cheapest_book(tuple([j for j, label in enumerate(old.labels) if label in kept]))


def must_go(old, text, form):
    """The labels of the leaves that no successor keeps."""
    judge_sizes(old, text)
    stayers = Stayers(old, text, form)
    # Without this, that there is no successor would be found out for each leaf again.
    if not stayers.can_stay(()):
        return old.labels
    return tuple([label for j, label in enumerate(old.labels) if not stayers.can_stay((j,))])


def quarrels(old, text, form):
    """The pairs of labels of leaves each of which can stay, but not together."""
    judge_sizes(old, text)
    stayers = Stayers(old, text, form)
    if not stayers.can_stay(()):
        return ()
    able = [j for j in range(len(old)) if stayers.can_stay((j,))]
    return tuple([(old.labels[one], old.labels[other]) for one in able for other in able
                  if one < other and not stayers.can_stay((one, other))])
