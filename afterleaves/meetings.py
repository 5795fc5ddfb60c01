"""What is filed together, surely filed and surely missed, and what must be filed again."""

from afterleaves.books import is_kept
from afterleaves.errors import Unknown, Unreached
from afterleaves.reached import all_rows, filed_rows, rows_to


def meeting(archive, wanted, *, steady=True):
    """The least row that reaches a binder with all the wanted leaves, each a pair (label, edition), or None."""
    leaves = [_edition_leaf(archive, label, k) for label, k in wanted]
    for row, binder in all_rows(archive, steady):
        if all([is_kept(binder, leaf) for leaf in leaves]):
            return row
    return None


def _edition_leaf(archive, label, k):
    """The leaf with a label in the book of the edition k."""
    if not 0 <= k < len(archive.books):
        raise Unknown(k)
    return archive.books[k][label]


def surely_filed(archive, binder, *, steady=True):
    """The sendings that stand in every row that reaches a binder."""
    rows = _reaching_rows(archive, binder, steady)
    return tuple([k for k in _sendings(archive) if all([k in row for row in rows])])


def surely_missed(archive, binder, *, steady=True):
    """The sendings that stand in no row that reaches a binder."""
    rows = _reaching_rows(archive, binder, steady)
    return tuple([k for k in _sendings(archive) if not any([k in row for row in rows])])


def filed_again(archive, binder):
    """The least row of sendings that makes the newest book of a binder."""
    _reaching_rows(archive, binder, False)
    filed = filed_rows(archive, binder, len(archive), False)
    # All sendings in their order lead to the newest book from everywhere, so that there is such a row.
    return [row for row, behind in filed if behind.same_print(archive.newest)][0]


def _sendings(archive):
    """The numbers of all sendings."""
    return list(range(1, len(archive) + 1))


def _reaching_rows(archive, binder, steady):
    """The rows that reach a binder; Unreached if there are none."""
    rows = rows_to(archive, binder, steady=steady)
    if not rows:
        raise Unreached()
    return rows
