"""The looker: whether a book is lawful for a text, and what its first fault is."""

from afterleaves.blocks import must_begin_leaf
from afterleaves.errors import Unlawful
from afterleaves.labels import kept_page, write_page
from afterleaves.lists import head_spots
from afterleaves.printing import see_token, span_token
from afterleaves.ranges import preferred_ranges, ranges_true, read_range
from afterleaves.reading import Reading

HERE = "here"
OVERLEAF = "overleaf"
FACING = "facing"


class Verdict:
    """What the looker says of a book: its first fault, or None if it is lawful."""

    def __init__(self, fault):
        self.fault = fault

    def __bool__(self):
        return self.fault is None


class Looker:
    """Holds books against texts in one format."""

    def __init__(self, form):
        self.form = form

    def __call__(self, text, book):
        try:
            reading = Reading(text, self.form, book)
        except Unlawful as why:
            return Verdict(why.fault)
        return Verdict(_reading_fault(reading))


def is_plain(text, form, book):
    """Whether a book is lawful, without pen strokes, and says the preferred tokens alone."""
    try:
        reading = Reading(text, form, book)
    except Unlawful:
        return False
    if _reading_fault(reading) is not None or any([leaf.pen for leaf in book]):
        return False
    if not all([said_token(reading, *pair) == preferred_token(reading, *pair) for pair in reading.owners()]):
        return False
    return all([is_preferred_entry(reading, k, item) for k, item in index_pairs(text)])


def place_word_true(book, own, goal, word, near):
    """Whether a place word leads from the page own to the page goal."""
    return word in true_words(book, own, goal, near)


def preferred_place(book, own, goal, near):
    """The place word that is printed for the way from the page own to the page goal."""
    return true_words(book, own, goal, near)[0]


def true_words(book, own, goal, near):
    """All true place words, the preferred one first."""
    own = kept_page(own)
    goal = kept_page(goal)
    words = [write_page(goal)]
    if near and own == goal:
        words.insert(0, HERE)
    elif near and own[0] == goal[0]:
        words.insert(0, OVERLEAF)
    elif near and book.facing(own) == goal:
        words.insert(0, FACING)
    return tuple(words)


def near_word(own, goal):
    """The near word for the way between two pages that are told by their indexes in a book, or None."""
    if own == goal:
        return HERE
    if own // 2 == goal // 2:
        return OVERLEAF
    return FACING if own - goal in (1, -1) else None


def preferred_token(reading, k, item):
    """The preferred token of a pointer, or of the pointer of an entry of the contents."""
    return true_tokens(reading, k, item)[0]


def said_token(reading, k, item):
    """The token that the leaf says at the place of a pointer."""
    (label, side), row, word = reading.own(k, item)
    return reading.book[label].says(side, row, word)


def true_tokens(reading, k, item):
    """All true tokens of a pointer, the preferred one first."""
    own = reading.own(k, item)[0]
    text = reading.text
    if text.blocks[k][0] == "contents":
        head = head_spots(text)[item]
        return (see_token(text, head, write_page(reading.places[head])),)
    targets = text.targets(k, item)
    goals = [reading.places[target] for target in targets]
    if len(goals) == 2:
        return (span_token(goals[0], goals[1]),)
    words = true_words(reading.book, own, goals[0], reading.form.near)
    return tuple([see_token(text, targets[0], word) for word in words])


def index_pairs(text):
    """The pairs of block and item of all entries of the index."""
    return [(k, item) for k, block in enumerate(text.blocks) if block[0] == "index" for item in range(len(block[2]))]


def is_preferred_entry(reading, k, item):
    """Whether an entry of the index has the preferred ranges."""
    entry = reading.entry(k, item)
    pairs = preferred_ranges(reading.book, reading.term_pages(entry[1]))
    return entry[2:] == tuple([span_token(first, last) for first, last in pairs])


def _reading_fault(reading):
    """The first fault of a book that reads well, or None."""
    for judge in (_height_fault, _foot_fault, _break_fault, _start_fault, _pen_fault, _word_fault, _index_fault):
        fault = judge(reading)
        if fault is not None:
            return fault
    return None


def _height_fault(reading):
    for leaf in reading.book:
        for side in (0, 1):
            if len(leaf.side_rows(side)) > reading.form.height:
                return ("height", (leaf.label, side))
    return None


def _foot_fault(reading):
    due = {page: [] for page in reading.book.pages()}
    shown = {page: 0 for page in due}
    for (page, spot, row), feet in zip(reading.rows, reading.feet):
        due[page].extend(list(feet))
        shown[page] = spot + 1
    for leaf in reading.book:
        for side in (0, 1):
            page = (leaf.label, side)
            if leaf.side_rows(side)[shown[page]:] != tuple(due[page]):
                return ("foot", page)
    return None


def _break_fault(reading):
    rows = reading.rows
    # Behind the last row of all a page may always end, so that only rows with one behind them are asked.
    for (page, spot, row), behind, end in zip(rows, rows[1:], reading.ends):
        if page != behind[0] and not end:
            return ("break", page)
    return None


def _start_fault(reading):
    for k, start in enumerate(reading.starts):
        if start is not None and must_begin_leaf(reading.text.blocks[k]):
            (label, side), row = start
            if side != 0 or row != 0:
                return ("start", k)
    return None


def _pen_fault(reading):
    places = {reading.own(*pair): True for pair in reading.owners()}
    for leaf in reading.book:
        for side, row, word, token in leaf.pen:
            if ((leaf.label, side), row, word) not in places:
                return ("pen", leaf.label)
    return None


def _word_fault(reading):
    for k, item in reading.owners():
        if said_token(reading, k, item) not in true_tokens(reading, k, item):
            return ("word", k, item)
    return None


def _index_fault(reading):
    for k, item in index_pairs(reading.text):
        entry = reading.entry(k, item)
        pairs = [read_range(token) for token in entry[2:]]
        if not ranges_true(reading.book, pairs, reading.term_pages(entry[1])):
            return ("index", item)
    return None
