"""Readers who follow pointers through a binder."""

from afterleaves.errors import NoPointer
from afterleaves.labels import kept_page, read_page
from afterleaves.looker import FACING, HERE, OVERLEAF
from afterleaves.reading import is_pointing


def follow(binder, place):
    """Where the pointer at a place of a binder leads."""
    page, row, word = pointer_place(binder, place)
    number, _, told = binder.text_rows(page)[row][word].partition("/")
    goal = _told_page(binder, page, told)
    if goal is None or goal[0] not in binder:
        return ("lost", "leaf")
    for spot, tokens in enumerate(binder.text_rows(goal)):
        if tokens[0] == number:
            return ("found", goal, spot)
    return ("lost", "number")


def pointer_place(binder, place):
    """The place with its page as a tuple; NoPointer if no pointer on paper stands there."""
    page, row, word = place
    kept = kept_page(page)
    if kept is None or kept[0] not in binder:
        raise NoPointer(place)
    rows = binder.text_rows(kept)
    if not 0 <= row < len(rows) or not 0 <= word < len(rows[row]) or not is_pointing(rows[row][word]):
        raise NoPointer(place)
    return (kept, row, word)


def _told_page(binder, page, told):
    """The page to which a place word on a page leads, or None."""
    if told == HERE:
        return page
    if told == OVERLEAF:
        return (page[0], 1 - page[1])
    return binder.facing(page) if told == FACING else read_page(told)


def walk(binder, place):
    """The answers of following a pointer, then the next one at or behind the row that is found, and so on."""
    here = pointer_place(binder, place)
    followed = {}
    while here is not None and here not in followed:
        followed[here] = True
        answer = follow(binder, here)
        yield answer
        here = _next_place(binder, answer[1], answer[2]) if answer[0] == "found" else None


def _next_place(binder, page, row):
    """The place of the first pointer on paper at or behind a row on its page, or None."""
    later = [place for place in _page_pointers(binder, page) if place[1] >= row]
    return later[0] if later else None


def _page_pointers(binder, page):
    """The places of the pointers on a page."""
    return [(page, row, word) for row, tokens in enumerate(binder.text_rows(page))
            for word, token in enumerate(tokens) if is_pointing(token)]


def pointers_on(binder):
    """The places of all pointers on paper."""
    return tuple([place for page in binder.pages() for place in _page_pointers(binder, page)])
