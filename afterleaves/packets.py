"""Packets: leaves that are sent after, and the stretches of labels that are cleared for them."""

from afterleaves.books import Book, is_kept
from afterleaves.errors import BadPacket, BadStretch, TooMany
from afterleaves.forms import is_sized, is_tuple
from afterleaves.labels import BEYOND, is_inside, kept_label, label_number, numbered_label
from afterleaves.leaves import Leaf

MOST_STRETCHES = 12
MOST_SENT = 40
FILLER = "x"


class Packet:
    """A row of stretches, each a tuple (low, high, leaves).

    Spans are the pairs of the numbers around the labels that the stretches clear.
    """

    def __init__(self, stretches):
        self.stretches = _judged_stretches(stretches)
        self.spans = tuple([_span(low, high) for low, high, leaves in self.stretches])
        self.leaves = tuple([leaf for low, high, leaves in self.stretches for leaf in leaves])

    def __call__(self, book):
        """The binder behind the filing of the packet into a book."""
        there = {leaf.label: leaf for leaf in book if leaf.label not in self}
        for leaf in self.leaves:
            there[leaf.label] = leaf
        return Book([there[label] for label in sorted(list(there))])

    def __add__(self, other):
        return Packet(_joined_stretches(self, other))

    def __contains__(self, label):
        kept = kept_label(label)
        return kept is not None and any([is_inside(kept, low, high) for low, high, leaves in self.stretches])

    def __eq__(self, other):
        return isinstance(other, Packet) and self.stretches == other.stretches

    def __len__(self):
        return len(self.leaves)

    def __iter__(self):
        return iter(self.leaves)


def _span(low, high):
    """The numbers of the bounds of a stretch."""
    return (0 if low is None else label_number(low), BEYOND if high is None else label_number(high))


def _judged_stretches(stretches):
    if not is_tuple(stretches):
        raise BadPacket()
    if len(stretches) > MOST_STRETCHES:
        raise TooMany("stretch")
    kept = []
    for k, thing in enumerate(stretches):
        stretch = _kept_stretch(thing)
        if stretch is None or (kept and not _is_behind(stretch, kept[-1])):
            raise BadStretch(k)
        kept.append(stretch)
    if sum([len(leaves) for low, high, leaves in kept]) > MOST_SENT:
        raise TooMany("leaf")
    return tuple(kept)


def _is_behind(stretch, ahead):
    """Whether a stretch begins not below the end of the one ahead of it."""
    low, high = stretch[:2]
    return _span(low, high)[0] >= _span(low, ahead[1])[1]


def _kept_stretch(thing):
    """The stretch with tuples in the place of lists, or None if it has not the form."""
    if not is_sized(thing, 3, 3) or not is_tuple(thing[2]):
        return None
    low, high, leaves = thing
    if not all([bound is None or kept_label(bound) is not None for bound in (low, high)]):
        return None
    if not all([isinstance(leaf, Leaf) and not leaf.pen for leaf in leaves]):
        return None
    first, last = _span(low, high)
    numbers = [first, *[label_number(leaf.label) for leaf in leaves], last]
    if not all([one < other for one, other in zip(numbers, numbers[1:])]):
        return None
    return (kept_label(low), kept_label(high), tuple(leaves))


def _joined_stretches(one, other):
    """The stretches of the packet that does what one packet does and, behind it, the other one."""
    there = {leaf.label: leaf for leaf in one.leaves if leaf.label not in other}
    for leaf in other.leaves:
        there[leaf.label] = leaf
    labels = sorted(list(there))
    bounds = [(numbered_label(low), numbered_label(high)) for low, high in _connected(one.spans + other.spans)]
    return [(low, high, [there[label] for label in labels if is_inside(label, low, high)]) for low, high in bounds]


def _connected(spans):
    """The connected parts of all labels that lie in spans: pairs of the numbers around them, ascending."""
    parts = []
    for low, high in sorted(list(spans)):
        if _is_void(low, high):
            continue
        # A span that begins with the last label of a part, or behind it with the next one, goes on with it.
        if parts and low < parts[-1][1]:
            parts[-1] = (parts[-1][0], max(parts[-1][1], high))
        else:
            parts.append((low, high))
    return parts


def _is_void(low, high):
    """Whether no label at all lies between labels with these numbers."""
    return high - low < 2


def trimmed(packet):
    """The packet without the stretches in which no label lies."""
    return Packet([stretch for stretch, span in zip(packet.stretches, packet.spans) if not _is_void(*span)])


def parting(one, other):
    """A book of at most one leaf to which the two packets do different things, or None if there is none."""
    if trimmed(one) == trimmed(other):
        return None
    if one.leaves != other.leaves:
        return Book(())
    # Whether a label is cleared changes only behind the beginning of a stretch and at its end.
    changes = sorted([number for low, high in one.spans + other.spans for number in (low + 1, high)])
    labels = [numbered_label(number) for number in changes]
    parted = [label for label in labels if (label in one) != (label in other)]
    return Book((Leaf(parted[0], (FILLER,), ()),))


def packet_between(old, new):
    """The packet from a book to another one."""
    return packet_past((old,), new, shared_labels((old,), new))


def shared_labels(books, new):
    """The labels of the leaves of the new book whose print all the books have."""
    return tuple([leaf.label for leaf in new if all([is_kept(book, leaf) for book in books])])


def packet_past(books, new, stays):
    """The packet that leads from each of the books to the new one when the leaves with these labels stay."""
    labels = sorted(set([leaf.label for book in (*books, new) for leaf in book]))
    stretches = []
    for low, high in zip((None, *stays), (*stays, None)):
        if any([is_inside(label, low, high) for label in labels]):
            stretches.append((low, high, [_bare(leaf) for leaf in new if is_inside(leaf.label, low, high)]))
    return Packet(stretches)


def _bare(leaf):
    """The leaf without pen strokes."""
    return Leaf(leaf.label, leaf.front, leaf.back)
