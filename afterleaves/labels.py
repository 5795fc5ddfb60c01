"""Labels of leaves, and pages."""

from afterleaves.errors import BadLabel, BadOrder, NoRoom
from afterleaves.forms import is_sized, is_within, read_integer

MOST_PARTS = 3
SIDES = "ab"
# The number of no label, but of a place behind all of them; 0 is that of a place ahead of all of them.
BEYOND = 1000000


def kept_label(thing):
    """The label as a tuple, or None if the thing is no label."""
    if not is_sized(thing, 1, MOST_PARTS):
        return None
    if not all([is_within(part, 0, 99) for part in thing]) or thing[-1] == 0:
        return None
    return tuple(thing)


def judged_label(thing):
    """The label as a tuple; BadLabel if the thing is none."""
    label = kept_label(thing)
    if label is None:
        raise BadLabel(thing)
    return label


def kept_page(thing):
    """The page as a pair of tuple and side, or None if the thing is no page."""
    if not is_sized(thing, 2, 2) or not is_within(thing[1], 0, 1):
        return None
    label = kept_label(thing[0])
    return None if label is None else (label, thing[1])


def between(low, high):
    """The shortest label above low and below high, of several the least; None is no bound."""
    low = None if low is None else judged_label(low)
    high = None if high is None else judged_label(high)
    for count in range(1, MOST_PARTS + 1):
        label = _least_above(low, count)
        if label is not None and (high is None or label < high):
            return label
    raise NoRoom()


def _least_above(low, count):
    """The least label of so many integers above low, or None if there is none."""
    # Labels of one length are in the order of the numbers that they are to the base 100. A longer low lies
    # directly behind its first parts, a shorter one directly ahead of itself with zeros: so cut or fill it.
    parts = list(low or ()) + [0] * count
    number = 0
    for part in parts[:count]:
        number = number * 100 + part
    number = number + 1
    if number % 100 == 0:
        number = number + 1
    label = []
    for _ in range(count):
        label.append(number % 100)
        number = number // 100
    return None if number else tuple(label[::-1])


def label_number(label):
    """The place of a label among all that there are, counted from 1."""
    # No two labels differ only in zeros at their ends: so filled up with zeros they stay in their order, and
    # are then, to the base 100, just all the numbers below BEYOND.
    first, second, third = (*label, 0, 0)[:MOST_PARTS]
    return (first * 100 + second) * 100 + third


def numbered_label(number):
    """The label with this number, or None if it is that of a place ahead of all labels or behind them."""
    if not 0 < number < BEYOND:
        return None
    parts = [number // 10000, number // 100 % 100, number % 100]
    while parts[-1] == 0:
        parts.pop()
    return tuple(parts)


def is_inside(label, low, high):
    """Whether a label is above low and below high; None is no bound."""
    return (low is None or label > low) and (high is None or label < high)


def write_label(label):
    """The label as it is written."""
    return ".".join([str(part) for part in judged_label(label)])


def read_label(word):
    """The label that a string writes, or None."""
    return kept_label([read_integer(part, 0, 99) for part in word.split(".")])


def write_page(page):
    """The page as it is written."""
    label, side = page
    return write_label(label) + SIDES[side]


def read_page(word):
    """The page that a string writes, or None."""
    if word[-1:] not in ("a", "b"):
        return None
    label = read_label(word[:-1])
    return None if label is None else (label, SIDES.index(word[-1:]))


def neighbours(labels):
    """The labels between each two that follow each other."""
    kept = [judged_label(label) for label in labels]
    for k in range(1, len(kept)):
        if kept[k] <= kept[k - 1]:
            raise BadOrder(k)
    return tuple([between(low, high) for low, high in zip(kept, kept[1:])])
