"""The settled books of a text: the settings with tokens that are just the preferred ones.

Where the rows come to stand hangs on how wide the tokens are, and on nothing else of them. So for each choice
of widths the rows are filled into pages once, the tokens that are preferred there are found, and a settled
book comes of the choice if these have just the widths chosen.
"""

from afterleaves.books import book_print
from afterleaves.errors import NoBook, TooMany
from afterleaves.filling import body_rows, body_spans, page_at, plain_spots, set_book, told_of
from afterleaves.labels import write_page
from afterleaves.lines import token_width
from afterleaves.looker import FACING, HERE, OVERLEAF, near_word
from afterleaves.printing import Printed, see_token, span_token, token_spot

MOST_POINTERS = 4


def settled_books(text, form):
    """All settled books, ascending by their leaves."""
    if len(text.pointers()) > MOST_POINTERS:
        raise TooMany("pointer")
    layouts = Layouts(text, form)
    books = {}
    for sample in layouts.samples():
        told = layouts.preferred_for(sample)
        if told is None or not all([token_width(one) == token_width(two) for one, two in zip(told, sample)]):
            continue
        try:
            book = set_book(text, told, form)
        except (NoBook, TooMany):
            continue
        books[book_print(book)] = book
    return tuple([books[prints] for prints in sorted(list(books))])


class Layouts:
    """The ways in which the rows of a text come to stand, one for each choice of widths of its tokens."""

    def __init__(self, text, form):
        self.text = text
        self.form = form
        self._printed = {}

    def samples(self):
        """Tokens for all pointers, in each choice of widths that they can have."""
        samples = [()]
        for k, item in self.text.pointers():
            tokens = self._sample_tokens(self.text.targets(k, item))
            samples = [(*sample, token) for sample in samples for token in tokens]
        return samples

    def _sample_tokens(self, targets):
        """A token of each width that a pointer with these targets can have."""
        # The labels of a setting have one digit or two.
        short = page_at(0)
        long = page_at(18)
        if len(targets) == 2:
            pairs = ((short, short), (long, long), (short, page_at(1)), (short, long), (long, page_at(19)))
            return [span_token(first, last) for first, last in pairs]
        words = [write_page(short), write_page(long)]
        if self.form.near:
            words.extend([HERE, OVERLEAF, FACING])
        return [see_token(self.text, targets[0], word) for word in words]

    def preferred_for(self, told):
        """The tokens that are preferred where tokens of these widths are set, or None if these cannot be set."""
        prints = self._prints(told)
        body = body_rows(self.text, prints)
        try:
            spans = body_spans(body, self.form)
        except (NoBook, TooMany):
            return None
        spots = [spot for spot, (first, behind) in enumerate(spans) for _ in range(first, behind)]
        tokens = []
        for k, item in self.text.pointers():
            own = spots[body.starts[k] + token_spot(prints[k].rows, item + 1)[0]]
            targets = self.text.targets(k, item)
            tokens.append(self._preferred(own, targets, [spots[body.starts[target]] for target in targets]))
        return tuple(tokens)

    def _prints(self, told):
        """The plain blocks printed with the tokens; a block is printed once for each choice of its own tokens."""
        prints = []
        for k in plain_spots(self.text):
            pair = (k, told_of(self.text, k, told))
            if pair not in self._printed:
                self._printed[pair] = Printed(self.text, k, pair[1], self.form)
            prints.append(self._printed[pair])
        return prints

    def _preferred(self, own, targets, goals):
        """The preferred token of a pointer on the page with the index own, for the indexes of its goals."""
        pages = [page_at(goal) for goal in goals]
        if len(pages) == 2:
            return span_token(pages[0], pages[1])
        word = near_word(own, goals[0]) if self.form.near else None
        return see_token(self.text, targets[0], write_page(pages[0]) if word is None else word)
