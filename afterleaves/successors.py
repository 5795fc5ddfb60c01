"""Successors of a book: what they keep of it, what strokes they cost, and whether a book is one."""

from afterleaves.books import is_kept
from afterleaves.errata import differences
from afterleaves.errors import BadPrice, NoRoom
from afterleaves.forms import is_within
from afterleaves.labels import between, is_inside
from afterleaves.looker import Looker, index_pairs, is_preferred_entry, preferred_token, said_token, true_tokens
from afterleaves.reading import Reading

MOST_PRICE = 20


def judged_price(price, word):
    """The price; BadPrice with this word if it is none."""
    if not is_within(price, 1, MOST_PRICE):
        raise BadPrice(word)
    return price


def strokes_of(old, new):
    """The places at which kept leaves say something else than the leaves of the old book, with what they say."""
    return tuple([(leaf.label, side, row, word, two) for leaf in new if is_kept(old, leaf)
                  for side, row, word, one, two in differences(old[leaf.label], leaf)])


def price_of(old, new, *, leaf=1, stroke=1):
    """The price of the new book: of its new leaves and of its strokes."""
    judged_price(leaf, "leaf")
    judged_price(stroke, "stroke")
    sent = [one for one in new if not is_kept(old, one)]
    return leaf * len(sent) + stroke * len(strokes_of(old, new))


def successor_fault(old, new, text, form, *, strokes=False):
    """The first fault of a book as a successor, or None."""
    fault = Looker(form)(text, new).fault
    if fault is not None:
        return ("unlawful", fault)
    reading = Reading(text, form, new)
    return _stroke_fault(old, reading, strokes) or _plain_fault(old, reading) or _label_fault(old, new)


def _stroke_fault(old, reading, strokes):
    """The fault of the first kept leaf that says something else than it may, or None."""
    pairs = {reading.own(*pair): pair for pair in reading.owners()}
    for leaf in reading.book:
        if not is_kept(old, leaf):
            continue
        for side, row, word, one, two in differences(old[leaf.label], leaf):
            pair = pairs.get(((leaf.label, side), row, word))
            if not strokes or pair is None or one in true_tokens(reading, *pair):
                return ("stroke", leaf.label)
            if two != preferred_token(reading, *pair):
                return ("stroke", leaf.label)
    return None


def _plain_fault(old, reading):
    """The fault of the first new leaf that is not plain, or None."""
    spoilt = {}
    for k, item in reading.owners():
        if said_token(reading, k, item) != preferred_token(reading, k, item):
            spoilt[reading.own(k, item)[0][0]] = True
    for k, item in index_pairs(reading.text):
        if not is_preferred_entry(reading, k, item):
            spoilt[reading.entry_page(k, item)[0]] = True
    for leaf in reading.book:
        if not is_kept(old, leaf) and (leaf.pen or leaf.label in spoilt):
            return ("plain", leaf.label)
    return None


def _label_fault(old, new):
    """The fault of the first new leaf whose label is not the one told, or None."""
    for k, leaf in enumerate(new):
        if not is_kept(old, leaf) and leaf.label != told_label(old, new, k):
            return ("label", leaf.label)
    return None


def told_label(old, new, k):
    """The label that the new leaf with the index k must bear; None if there is no such label."""
    first = k
    while first > 0 and not is_kept(old, new.leaves[first - 1]):
        first = first - 1
    low = new.leaves[first - 1].label if first > 0 else None
    high = None
    for leaf in new.leaves[k:]:
        if is_kept(old, leaf):
            high = leaf.label
            break
    there = [label for label in old.labels if is_inside(label, low, high)]
    if k - first < len(there):
        return there[k - first]
    try:
        return between(new.leaves[k - 1].label if k > 0 else None, high)
    except NoRoom:
        return None
