"""Lists of corrections that are carried out on books by pen."""

from afterleaves.books import Book
from afterleaves.errors import BadCorrection, BadErrata, TooMany
from afterleaves.forms import is_sized, is_tuple, is_within
from afterleaves.labels import kept_page
from afterleaves.leaves import MOST_ROWS, MOST_TOKENS, Leaf, is_token

MOST_CORRECTIONS = 60
FILLER = "x"


class Errata:
    """A list of corrections, each a tuple (page, row, word, old, new)."""

    def __init__(self, corrections):
        self.corrections = _judged_corrections(corrections)
        self._turns = _turns_at_places(self.corrections)

    def __call__(self, book):
        """The book behind the list."""
        leaves = []
        for leaf in book:
            strokes = [(page[1], row, word, token) for (page, row, word), token in self._leaf_turns(leaf)]
            leaves.append(leaf.penned(strokes) if strokes else leaf)
        return Book(leaves)

    def _leaf_turns(self, leaf):
        """The pairs of place and token for the places of a leaf at which the list does something."""
        done = []
        for place in self._turns:
            (label, side), row, word = place
            token = leaf.says(side, row, word) if label == leaf.label else None
            if _steps(token, self._turns[place]):
                done.append((place, self.turned(*place, token)))
        return done

    def turned(self, page, row, word, token):
        """The token into which the whole list turns this one."""
        turns = self._turns.get((kept_page(page), row, word), [])
        steps = _steps(token, turns)
        return steps[-1][1] if steps else token

    def table(self):
        """The tuples (page, row, word, old, new) of all that the whole list turns into something else."""
        rows = []
        for place in self._turns:
            for old in sorted(set([turn[0] for turn in self._turns[place]])):
                new = self.turned(*place, old)
                if new != old:
                    rows.append((*place, old, new))
        return tuple(sorted(rows))

    def __add__(self, other):
        return Errata(self.corrections + other.corrections)

    def __len__(self):
        return len(self.corrections)

    def __iter__(self):
        return iter(self.corrections)

    def __eq__(self, other):
        return isinstance(other, Errata) and self.corrections == other.corrections


def _steps(token, turns):
    """Of the turns at a place, each a pair (old, new), those that are done, beginning with this token."""
    steps = []
    for old, new in turns:
        if old == token:
            steps.append((old, new))
            token = new
    return steps


def _turns_at_places(corrections):
    """For each place the pairs (old, new) of its corrections, in order."""
    turns = {}
    for page, row, word, old, new in corrections:
        turns.setdefault((page, row, word), []).append((old, new))
    return turns


def _judged_corrections(corrections):
    if not is_tuple(corrections):
        raise BadErrata()
    if len(corrections) > MOST_CORRECTIONS:
        raise TooMany("correction")
    kept = [_kept_correction(thing) for thing in corrections]
    if None in kept:
        raise BadCorrection(kept.index(None))
    return tuple(kept)


def _kept_correction(thing):
    """The correction with tuples in the place of lists, or None if it has not the form."""
    if not is_sized(thing, 5, 5):
        return None
    page, row, word, old, new = thing
    if kept_page(page) is None or not is_within(row, 0, MOST_ROWS - 1) or not is_within(word, 0, MOST_TOKENS - 1):
        return None
    if not is_token(old) or not is_token(new) or old == new:
        return None
    return (kept_page(page), row, word, old, new)


def parting(one, other):
    """A book of one leaf to which the two lists do different things, or None if there is none."""
    places = sorted(set([row[:4] for row in one.table() + other.table()]))
    for page, row, word, old in places:
        if one.turned(page, row, word, old) != other.turned(page, row, word, old):
            return _book_with(page, row, word, old)
    return None


def _book_with(page, row, word, token):
    """A book of one leaf that has the token at this place."""
    label, side = page
    rows = (FILLER,) * row + (" ".join([FILLER] * word + [token]),)
    return Book((Leaf(label, (FILLER,) if side else rows, rows if side else ()),))


def needed(old, new):
    """The list with a correction for each place at which leaves of the same print say different tokens."""
    corrections = []
    for leaf in old:
        if leaf.label in new and leaf.same_print(new[leaf.label]):
            corrections.extend([((leaf.label, side), row, word, one, two)
                                for side, row, word, one, two in differences(leaf, new[leaf.label])])
    return Errata(corrections)


def differences(leaf, other):
    """The tuples (side, row, word, token, other token) where two leaves of one print say different tokens."""
    found = []
    for side in (0, 1):
        for row, (said, others) in enumerate(zip(leaf.said_rows(side), other.said_rows(side))):
            found.extend([(side, row, word, one, two)
                          for word, (one, two) in enumerate(zip(said, others)) if one != two])
    return found
