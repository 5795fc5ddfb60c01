"""Plans: whether to send, to wait or to recast at each of the editions that are to come."""

from heapq import heappop, heappush

from afterleaves.books import Book
from afterleaves.errors import BadPrice, NoBook, TooMany
from afterleaves.forms import is_sized, is_within
from afterleaves.renewal import judge_sizes, judge_text, renewed
from afterleaves.shapes import ShapeStore
from afterleaves.successors import price_of

RECAST = "recast"
SEND = "send"
WAIT = "wait"
WORDS = (RECAST, SEND, WAIT)
MOST_LATE = 3


def plan_price(old, texts, form, words, *, late=3):
    """The price and the books of a plan; None if it is no plan, or if a book of it cannot be made."""
    _judge_plans(texts, late)
    if not is_sized(words, len(texts), len(texts)) or not _may_come(words, late, len(texts)):
        return None
    office = Office(old, texts, form)
    price = 0
    books = []
    for k, word in enumerate(words):
        if word != WAIT:
            made = office.made(_sent_since(words[:k + 1]))
            if made is None:
                return None
            price = price + made[0]
            books.append(made[1])
    return (price, tuple(books))


def best_plan(old, texts, form, *, late=3):
    """The words and the price of the best plan."""
    _judge_plans(texts, late)
    office = Office(old, texts, form)
    # The beginnings of plans, the cheapest first, of several the least; the price of the last word can be open.
    queue = [(0, (), True)]
    while queue:
        price, words, told = heappop(queue)
        if not told:
            made = office.made(_sent_since(words))
            if made is not None:
                heappush(queue, (price + made[0], words, True))
        elif len(words) == len(texts):
            return (words, price)
        else:
            for further in [(*words, word) for word in WORDS]:
                if _may_come(further, late, len(texts)):
                    heappush(queue, (price, further, further[-1] == WAIT))
    raise NoBook()


def _judge_plans(texts, late):
    for text in texts:
        judge_text(text)
    if not is_within(late, 0, MOST_LATE):
        raise BadPrice("late")


def _may_come(words, late, count):
    """Whether things are words with which a plan of so many words can begin: it does not wait too often in a row,
    and not at its end."""
    waiting = 0
    for word in words:
        waiting = waiting + 1 if word == WAIT else 0
        if word not in WORDS or waiting > late:
            return False
    return len(words) < count or waiting == 0


def _sent_since(words):
    """What was sent since the last recast, this one among it: pairs of word and edition."""
    sent = ()
    for k, word in enumerate(words):
        if word != WAIT:
            sent = ((word, k),) if word == RECAST else (*sent, (word, k))
    return sent


class Office:
    """An office that makes books of the texts to come, and remembers them.

    A book hangs on nothing but on what was sent since the last recast.
    """

    def __init__(self, old, texts, form):
        self.old = old
        self.texts = texts
        self.store = ShapeStore(form)
        self._made = {}

    def made(self, sent):
        """The price and the book of the last thing that was sent, or None if there is no such book."""
        if sent not in self._made:
            self._made[sent] = self._newly_made(sent)
        return self._made[sent]

    def _newly_made(self, sent):
        word, k = sent[-1]
        old = Book(())
        if word == SEND:
            # Nothing is sent behind a book that could not be made.
            old = self.made(sent[:-1])[1] if len(sent) > 1 else self.old
        try:
            judge_sizes(old, self.texts[k])
            book = renewed(old, self.texts[k], self.store, 1, None)
        except (NoBook, TooMany):
            return None
        return (price_of(old, book), book)
