"""The binders that keepers reach who miss sendings or file them in another order."""

from afterleaves.books import book_print


def filed_rows(archive, binder, count, steady):
    """The pairs of row and binder for all rows of the first sendings, so many, that are filed into a binder.

    They come in the order of their number of sendings, then of the rows; no sending stands twice in a row.
    """
    filed = [((), binder)]
    done = 0
    while done < len(filed):
        row, ahead = filed[done]
        for k in range(1, count + 1):
            if k not in row and not (steady and row and k < row[-1]):
                packet = archive.packet(k)
                filed.append(((*row, k), packet(ahead)))
        done = done + 1
    return filed


def all_rows(archive, steady):
    """The pairs of row and binder for all rows of an archive that keepers file."""
    return filed_rows(archive, archive.books[0], len(archive), steady)


def distinct(filed):
    """The pairs of binder and row without the later ones of those whose binders have the same print."""
    found = {}
    for row, binder in filed:
        found.setdefault(book_print(binder), (binder, row))
    return tuple(list(found.values()))


def binders(archive, *, steady=True):
    """The binders that are reached, each with the least row that reaches it."""
    return distinct(all_rows(archive, steady))


def rows_to(archive, binder, *, steady=True):
    """The rows that reach a binder."""
    return tuple([row for row, reached in all_rows(archive, steady) if reached.same_print(binder)])
