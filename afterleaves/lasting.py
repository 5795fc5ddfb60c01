"""Ranges that stay true through a row of stages."""

from afterleaves.ranges import judged_pages, shown_pages


def lasting(stages):
    """The fewest ranges that last for the most first stages, and the number of these."""
    judged = [(book, judged_pages(book, pages)) for book, pages in stages]
    pairs = _common_pairs(judged[:1])
    for count in range(2, len(judged) + 1):
        further = _common_pairs(judged[:count])
        if further is None:
            return (pairs, count - 1)
        pairs = further
    return (pairs, len(judged))


def _common_pairs(stages):
    """The fewest and shortest pairs that are true in each of the stages, or None."""
    wanted = sorted(set([page for book, pages in stages for page in pages]))
    barred = sorted(set([page for book, pages in stages for page in shown_pages(book) if page not in pages]))
    common = [page for page in stages[0][0].pages() if all([page[0] in book for book, pages in stages])]
    pairs = []
    for group in _gap_groups(wanted, barred):
        begins = [page for page in common if page <= group[0]]
        ends = [page for page in common if page >= group[-1]]
        if not begins or not ends or _meets(begins[-1], ends[0], barred):
            return None
        pairs.append((begins[-1], ends[0]))
    return tuple(pairs)


def _meets(first, last, barred):
    """Whether a barred page lies from the first to the last page."""
    return any([first <= page <= last for page in barred])


def _gap_groups(wanted, barred):
    """The wanted pages, parted where a barred page lies between two that follow each other."""
    groups = []
    for page in wanted:
        if groups and not _meets(groups[-1][-1], page, barred):
            groups[-1].append(page)
        else:
            groups.append([page])
    return groups
