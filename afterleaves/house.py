"""The house: a text that is worked on, its editions, and the desks that keep binders of them."""

from afterleaves.archive import MOST_EDITIONS, Archive
from afterleaves.books import Book
from afterleaves.edits import edited, kept_edit
from afterleaves.errors import BadEntry, BadPlace, TooMany, Twice, Unknown
from afterleaves.forms import is_integer, is_sized, is_tuple, is_word
from afterleaves.labels import kept_label
from afterleaves.packets import packet_between
from afterleaves.renewal import Renewal, fresh_book

MOST_DESKS = 6
MOST_ENTRIES = 60


class Stand:
    """How a house stands behind an entry (or at its beginning, behind None); it is never changed.

    Binders are told by the names of their desks, and paid is the price account.
    """

    def __init__(self, done, text, editions, paid, binders):
        self.done = done
        self.text = text
        self.editions = editions
        self.paid = paid
        self.binders = binders

    def binder_at(self, name):
        """The binder of a desk."""
        if name not in self.binders:
            raise Unknown(name)
        return self.binders[name]


class House:
    """A house, told by all that was entered in it; stands tell how it stood at each moment."""

    def __init__(self, form, text):
        # A house that goes on from another one is passed the stands of that one, so that nothing is done again.
        self.stands = text if is_tuple(text) else (_first_stand(form, text),)
        self.form = form
        self.first_text = self.stands[0].text
        self.entries = tuple([stand.done for stand in self.stands[1:]])

    def __eq__(self, other):
        return (isinstance(other, House) and self.form == other.form and self.first_text == other.first_text
                and self.entries == other.entries)

    @property
    def archive(self):
        """The editions."""
        return self.stands[-1].editions

    @property
    def text_now(self):
        """The text that is worked on."""
        return self.stands[-1].text

    @property
    def account(self):
        """The price of all that was sent and recast."""
        return self.stands[-1].paid

    @property
    def desks(self):
        """The names of the desks."""
        return tuple(sorted(list(self.stands[-1].binders)))

    def enter(self, entry):
        """Does what an entry says."""
        kept = _kept_entry(entry)
        if kept is None:
            raise BadEntry()
        if len(self.entries) == MOST_ENTRIES:
            raise TooMany("entry")
        act = ACTS[kept[0]]
        stand = act(self.form, self.stands[-1], kept)
        self.stands = (*self.stands, stand)
        self.entries = (*self.entries, stand.done)

    def binder_of(self, name):
        """The binder of a desk."""
        return self.stands[-1].binder_at(name)

    def copy(self):
        """A house that stands as this one, and goes on for itself."""
        return House(self.form, self.stands)

    def upto(self, moment):
        """The house behind so many entries."""
        if not 0 <= moment <= len(self.entries):
            raise BadPlace(moment)
        return House(self.form, self.stands[:moment + 1])


class Trial:
    """A trial of a house: what is entered while it goes on is taken back at its end."""

    def __init__(self, house):
        self.house = house

    def __enter__(self):
        self.stands = self.house.stands
        self.entries = self.house.entries
        return self.house

    def __exit__(self, kind, value, trace):
        house = self.house
        house.stands = self.stands
        house.entries = self.entries


def foreseen(house, entries):
    """The price account that a house would have behind these entries."""
    with Trial(house) as tried:
        for entry in entries:
            tried.enter(entry)
        account = tried.account
    return account


def _kept_entry(entry):
    """The entry as a tuple, or None if it has none of the forms of entries; an edit is as it was passed."""
    if not is_sized(entry, 1, 3):
        return None
    word = entry[0]
    if len(entry) == 1:
        return (word,) if word in ("send", "recast") else None
    if word == "edit":
        return tuple(entry) if len(entry) == 2 else None
    if not is_word(entry[1]):
        return None
    if len(entry) == 2:
        return tuple(entry) if word in ("begin", "heal") else None
    if word == "lose" and kept_label(entry[2]) is not None:
        return (word, entry[1], kept_label(entry[2]))
    return tuple(entry) if word == "file" and is_integer(entry[2]) else None


def _first_stand(form, text):
    archive = Archive(form, (text,), (fresh_book(text, form),))
    return Stand(None, text, archive, 0, {})


def _edit(form, stand, entry):
    text = edited(stand.text, entry[1])
    return Stand((entry[0], kept_edit(entry[1])), text, stand.editions, stand.paid, stand.binders)


def _send(form, stand, entry):
    _judge_editions(stand)
    renewal = Renewal(stand.editions.newest, stand.text, form)
    return _with_edition(form, stand, entry, renewal.book, renewal.price)


def _recast(form, stand, entry):
    _judge_editions(stand)
    book = fresh_book(stand.text, form)
    return _with_edition(form, stand, entry, book, len(book))


def _judge_editions(stand):
    """TooMany if there can be no further edition."""
    if len(stand.editions.books) == MOST_EDITIONS:
        raise TooMany("edition")


def _with_edition(form, stand, entry, book, price):
    """The stand behind an entry that makes a further edition."""
    editions = stand.editions
    archive = Archive(form, (*editions.texts, stand.text), (*editions.books, book))
    return Stand(entry, stand.text, archive, stand.paid + price, stand.binders)


def _begin(form, stand, entry):
    if entry[1] in stand.binders:
        raise Twice(entry[1])
    if len(stand.binders) == MOST_DESKS:
        raise TooMany("desk")
    return _with_binder(stand, entry, stand.editions.newest)


def _file(form, stand, entry):
    binder = stand.binder_at(entry[1])
    packet = stand.editions.packet(entry[2])
    return _with_binder(stand, entry, packet(binder))


def _lose(form, stand, entry):
    binder = stand.binder_at(entry[1])
    lost = binder[entry[2]]
    return _with_binder(stand, entry, Book([leaf for leaf in binder if leaf.label != lost.label]))


def _heal(form, stand, entry):
    binder = stand.binder_at(entry[1])
    packet = packet_between(binder, stand.editions.newest)
    return _with_binder(stand, entry, packet(binder))


def _with_binder(stand, entry, binder):
    """The stand behind an entry that gives a desk another binder."""
    binders = {name: stand.binders[name] for name in stand.binders}
    binders[entry[1]] = binder
    return Stand(entry, stand.text, stand.editions, stand.paid, binders)


ACTS = {"edit": _edit, "send": _send, "recast": _recast, "begin": _begin, "file": _file, "lose": _lose, "heal": _heal}
