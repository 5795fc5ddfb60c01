"""What pointers on paper mean in the editions of an archive, and whether they lead there in a binder."""

from afterleaves.books import leaf_print
from afterleaves.following import follow, pointer_place, pointers_on
from afterleaves.lists import head_spots
from afterleaves.reached import binders
from afterleaves.reading import Reading

LOST = "lost"
RIGHT = "right"
MISLED = "misled"


class Meanings:
    """What the pointers and rows of leaves mean in the editions that have these leaves."""

    def __init__(self, archive):
        # For each print of a leaf the names at its places: tuples (side, row, word) of pointers, and (side, row).
        self._names = {}
        for text, book in zip(archive.texts, archive.books):
            self._note_edition(Reading(text, archive.form, book))

    def _note_edition(self, reading):
        """Notes what the pointers and the first rows of blocks mean in an edition."""
        for pair in reading.owners():
            name = _target_name(reading.text, *pair)
            if name is not None:
                (label, side), row, word = reading.own(*pair)
                self._note(reading.book[label], (side, row, word), name)
        for block, start in zip(reading.text.blocks, reading.starts):
            if start is not None:
                (label, side), row = start
                self._note(reading.book[label], (side, row), block[1])

    def _note(self, leaf, place, name):
        names = self._names.setdefault(leaf_print(leaf), {})
        names[place] = sorted(set(names.get(place, []) + [name]))

    def _noted(self, leaf, place):
        names = self._names.get(leaf_print(leaf), {})
        return tuple(names.get(place, []))

    def meant(self, leaf, side, row, word):
        """The names that the pointer at a place of a leaf means."""
        return self._noted(leaf, (side, row, word))

    def standing(self, leaf, side, row):
        """The names of the blocks whose first row this row of a leaf is."""
        return self._noted(leaf, (side, row))

    def judged(self, binder, place):
        """Whether a pointer of a binder is lost, right or misled."""
        page, row, word = pointer_place(binder, place)
        answer = follow(binder, (page, row, word))
        if answer[0] == LOST:
            return LOST
        goal, spot = answer[1:]
        there = self.standing(binder[goal[0]], goal[1], spot)
        names = self.meant(binder[page[0]], page[1], row, word)
        return RIGHT if any([name in there for name in names]) else MISLED

    def misled_places(self, binder):
        """The places of the pointers of a binder that are misled."""
        return tuple([place for place in pointers_on(binder) if self.judged(binder, place) == MISLED])


def _target_name(text, k, item):
    """The name that a pointer means; None for a span, which is no pointer on paper."""
    if text.blocks[k][0] == "contents":
        return text.blocks[head_spots(text)[item]][1]
    targets = text.targets(k, item)
    return text.blocks[targets[0]][1] if len(targets) == 1 else None


def first_misled(archive, *, steady=True):
    """The least row of the first binder in which a pointer is misled, and the first such place; or None."""
    meanings = Meanings(archive)
    for binder, row in binders(archive, steady=steady):
        places = meanings.misled_places(binder)
        if places:
            return (row, places[0])
    return None
