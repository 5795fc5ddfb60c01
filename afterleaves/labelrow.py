"""The labels that new leaves of a successor can bear."""

from afterleaves.books import MOST_LEAVES
from afterleaves.errors import NoRoom
from afterleaves.labels import between, write_label


class LabelRow:
    """The labels of an old book, and those that new leaves bear between them.

    A place among them is a pair (spot, count). With the count 0 the last leaf bears the label ahead of the
    spot, whether it was kept or not, and new leaves may go on with the label of the spot. With a count
    above 0 so many new leaves follow each other ahead of the label of the spot: the next leaf to be kept
    is then this one (or none, behind the last label).
    """

    def __init__(self, labels):
        self.told = labels
        self._chains = [[] for _ in range(len(labels) + 1)]

    def last_label(self, spot, count):
        """The label of the last leaf; None if there is no leaf yet."""
        if count > 0:
            return self.chained(spot, count)
        return self.told[spot - 1] if spot > 0 else None

    def chained(self, spot, count):
        """The label of the new leaf with this count ahead of the label of the spot, or None if there is no room."""
        chain = self._chains[spot]
        high = self.told[spot] if spot < len(self.told) else None
        while len(chain) < count:
            low = chain[-1] if chain else self.last_label(spot, 0)
            try:
                chain.append(None if chain and low is None else between(low, high))
            except NoRoom:
                chain.append(None)
        return chain[count - 1]

    def page_widths(self, most):
        """The widths of the written pages of all these labels, with no more than so many new leaves at one spot."""
        found = [len(write_label(label)) + 1 for label in self.told]
        for spot in range(len(self.told) + 1):
            for count in range(1, min(most, MOST_LEAVES) + 1):
                label = self.chained(spot, count)
                if label is None:
                    break
                found.append(len(write_label(label)) + 1)
        return sorted(set(found))
