"""Healing all binders of an archive at once."""

from afterleaves.packets import packet_past, shared_labels
from afterleaves.reached import binders


def healing_packet(archive, *, steady=True):
    """The packet with the fewest leaves that leads each binder that is reached to the newest book."""
    reached = [binder for binder, row in binders(archive, steady=steady)]
    return packet_past(reached, archive.newest, shared_labels(reached, archive.newest))
