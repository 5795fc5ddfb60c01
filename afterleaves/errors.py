"""All errors of the program, under three bases.

No error passes anything on to ValueError: Python itself keeps what an error was made of as its message.
"""


class AfterError(ValueError):
    """The base of all errors of the program."""


class BadForm(AfterError):
    """Something does not have the form that is asked for."""


class NotThere(AfterError):
    """Something is named that is not there."""


class BadLabel(BadForm):
    """A thing is no label."""

    def __init__(self, label):
        self.label = label


class BadFormat(BadForm):
    """A part of a format is wrong; the word names the part."""

    def __init__(self, word):
        self.word = word


class BadText(BadForm):
    """A text is no tuple of one or more things."""


class BadBlock(BadForm):
    """A block has none of the forms of blocks."""

    def __init__(self, block):
        self.block = block


class BadOrder(BadForm):
    """A thing stands at a place where it may not come behind those ahead of it."""

    def __init__(self, place):
        self.place = place


class BadLine(BadForm):
    """A word of a line cannot stand where it stands."""

    def __init__(self, line, word):
        self.line = line
        self.word = word


class BadEdit(BadForm):
    """A thing has none of the forms of edits."""


class BadPlace(BadForm):
    """A place is not among the places that there are."""

    def __init__(self, place):
        self.place = place


class BadLeaf(BadForm):
    """A part of a leaf is wrong; the word names the part."""

    def __init__(self, word):
        self.word = word


class BadBook(BadForm):
    """A book is no tuple of leaves."""


class BadPages(BadForm):
    """Pages are no ascending tuple of pages of the book that have rows."""


class BadPrice(BadForm):
    """A price or a bound is wrong; the word names it."""

    def __init__(self, word):
        self.word = word


class BadErrata(BadForm):
    """A list of corrections is no tuple."""


class BadCorrection(BadForm):
    """A thing in a list of corrections has not the form of a correction."""

    def __init__(self, place):
        self.place = place


class BadPacket(BadForm):
    """A packet is no tuple."""


class BadStretch(BadForm):
    """A stretch of a packet has not the form, or begins too early."""

    def __init__(self, place):
        self.place = place


class BadArchive(BadForm):
    """A part of an archive is wrong; the word names the part."""

    def __init__(self, word):
        self.word = word


class BadEntry(BadForm):
    """A thing has none of the forms of entries of a house."""


class Unknown(NotThere):
    """Nothing has this name (or label, page, index or number)."""

    def __init__(self, name):
        self.name = name


class Unfit(NotThere):
    """The block of this name cannot be pointed to."""

    def __init__(self, name):
        self.name = name


class Lacking(NotThere):
    """No block of the kind that a pointer names stands behind its own block."""

    def __init__(self, block, item):
        self.block = block
        self.item = item


class Backward(NotThere):
    """A span goes from a later block to an earlier one."""

    def __init__(self, block, item):
        self.block = block
        self.item = item


class NoPointer(NotThere):
    """No pointer stands at this place of a binder."""

    def __init__(self, place):
        self.place = place


class Unreached(NotThere):
    """No row of sendings leads to this binder."""


class TooMany(AfterError):
    """There are more things than may be; the word names their kind."""

    def __init__(self, word):
        self.word = word


class Twice(AfterError):
    """A name stands where it already stood."""

    def __init__(self, name):
        self.name = name


class NoRoom(AfterError):
    """There is no label between two labels."""


class NoBook(AfterError):
    """There is no book as it is asked for."""


class Unlawful(AfterError):
    """The book of an edition is not lawful; the fault is that of the looker."""

    def __init__(self, edition, fault):
        self.edition = edition
        self.fault = fault


class Unlike(AfterError):
    """Two books differ in print at this label."""

    def __init__(self, label):
        self.label = label


class Torn(AfterError):
    """A journal is spoilt before its text has ended."""

    def __init__(self, line):
        self.line = line
