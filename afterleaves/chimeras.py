"""Binders that read as a whole book, and are of no edition."""

from afterleaves.reached import binders
from afterleaves.seams import is_seamless


def chimeras(archive, *, steady=True):
    """The chimeras among the binders that are reached, each with its least row."""
    return tuple([(binder, row) for binder, row in binders(archive, steady=steady) if is_chimera(archive, binder)])


def is_chimera(archive, binder):
    """Whether a binder is seamless and has the print of no edition."""
    return not any([binder.same_print(book) for book in archive.books]) and is_seamless(binder)
