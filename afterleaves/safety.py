"""Making the last sending larger, so that it does no harm to keepers who missed earlier ones."""

from afterleaves.books import book_print
from afterleaves.chimeras import is_chimera
from afterleaves.errors import NoBook, TooMany, Unknown
from afterleaves.labels import kept_label
from afterleaves.meanings import Meanings
from afterleaves.packets import packet_past, shared_labels
from afterleaves.reached import distinct, filed_rows

MOST_STAYING = 8


def enlarged(archive, added):
    """The last sending with the leaves at these labels added."""
    return _enlarged(archive, _staying_labels(archive), added)


def is_safe(archive, added):
    """Whether the last sending, with the leaves at these labels added, does no harm to any steady keeper."""
    packet = enlarged(archive, added)
    return Keepers(archive).are_safe_with(packet)


def least_safe(archive):
    """The fewest labels, of as many the least, with which the last sending does no harm."""
    stays = _staying_labels(archive)
    if len(stays) > MOST_STAYING:
        raise TooMany("leaf")
    keepers = Keepers(archive)
    for added in _choices(stays):
        if keepers.are_safe_with(_enlarged(archive, stays, added)):
            return added
    raise NoBook()


def _staying_labels(archive):
    """The labels of the leaves that stay in the last sending."""
    if len(archive) == 0:
        raise Unknown(0)
    return shared_labels(archive.books[-2:-1], archive.newest)


def _enlarged(archive, stays, added):
    """The last sending without these added ones of the labels that stay."""
    taken = [kept_label(label) for label in added]
    for label, kept in zip(added, taken):
        if kept not in stays:
            raise Unknown(label)
    return packet_past(archive.books[-2:-1], archive.newest, [label for label in stays if label not in taken])


def _choices(labels):
    """All choices of some of the ascending labels: those of fewer first, and of as many the least first."""
    choices = [()]
    done = 0
    while done < len(choices):
        chosen = choices[done]
        choices.extend([(*chosen, label) for label in labels if not chosen or label > chosen[-1]])
        done = done + 1
    return choices


class Keepers:
    """The steady keepers who filed any of the sendings ahead of the last one."""

    def __init__(self, archive):
        self.editions = archive
        self.meanings = Meanings(archive)
        filed = filed_rows(archive, archive.books[0], len(archive) - 1, True)
        self.binders = [binder for binder, row in distinct(filed)]
        # Larger sendings often lead to binders that were judged already.
        self._known = {}

    def are_safe_with(self, packet):
        """Whether a packet leads none of them to a chimera, or to a binder in which a pointer is misled."""
        # All of them file it ahead of what is judged: so too many leaves of one of them are always told.
        for binder in [packet(binder) for binder in self.binders]:
            if not self._is_harmless(binder):
                return False
        return True

    def _is_harmless(self, binder):
        key = book_print(binder)
        if key not in self._known:
            harmed = is_chimera(self.editions, binder) or len(self.meanings.misled_places(binder)) > 0
            self._known[key] = not harmed
        return self._known[key]
