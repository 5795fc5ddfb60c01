"""Plans: whether to send, to wait or to recast at each of the editions that are to come."""

from afterleaves.errors import BadPrice, NoBook, TooMany
from afterleaves.forms import is_sized, is_within
from afterleaves.renewal import Renewal, fresh_book, judge_text

RECAST = "recast"
SEND = "send"
WAIT = "wait"
WORDS = (RECAST, SEND, WAIT)
MOST_LATE = 3


def plan_price(old, texts, form, words, *, late=3):
    """The price and the books of a plan; None if it is no plan, or if a book of it cannot be made."""
    _judge_plans(texts, late)
    if not is_sized(words, len(texts), len(texts)) or not _is_plan(words, late):
        return None
    return Office(old, texts, form).carried_out(words)


def best_plan(old, texts, form, *, late=3):
    """The words and the price of the best plan."""
    _judge_plans(texts, late)
    office = Office(old, texts, form)
    best = None
    # Of plans at one price the least one comes first.
    for words in _all_words(len(texts)):
        made = office.carried_out(words) if _is_plan(words, late) else None
        if made is not None and (best is None or made[0] < best[1]):
            best = (words, made[0])
    if best is None:
        raise NoBook()
    return best


def _judge_plans(texts, late):
    for text in texts:
        judge_text(text)
    if not is_within(late, 0, MOST_LATE):
        raise BadPrice("late")


def _all_words(count):
    """All rows of so many words, ascending."""
    rows = [()]
    for _ in range(count):
        rows = [(*row, word) for row in rows for word in WORDS]
    return rows


def _is_plan(words, late):
    """Whether a row of things has only words of plans, does not wait too often in a row, and not at its end."""
    waiting = 0
    for word in words:
        waiting = waiting + 1 if word == WAIT else 0
        if word not in WORDS or waiting > late:
            return False
    return waiting == 0


class Office:
    """An office that makes books for the texts to come, and remembers them.

    What it sends hangs on nothing but on what it sent since it recast the last time.
    """

    def __init__(self, old, texts, form):
        self.old = old
        self.texts = texts
        self.form = form
        self._sent = {}

    def carried_out(self, words):
        """The price and the books of a plan, or None if a book cannot be made."""
        price = 0
        books = []
        past = ()
        for k, word in enumerate(words):
            if word == WAIT:
                continue
            past = ((word, k),) if word == RECAST else (*past, (word, k))
            made = self._made(past, books[-1] if books else self.old)
            if made is None:
                return None
            price = price + made[0]
            books.append(made[1])
        return (price, tuple(books))

    def _made(self, past, last):
        """The price and the book of the last thing done in the past, the last book being sent ahead of it; or None."""
        if past not in self._sent:
            self._sent[past] = self._tried(past[-1], last)
        return self._sent[past]

    def _tried(self, done, last):
        word, k = done
        text = self.texts[k]
        try:
            if word == RECAST:
                book = fresh_book(text, self.form)
                return (len(book), book)
            renewal = Renewal(last, text, self.form)
            return (renewal.price, renewal.book)
        except (NoBook, TooMany):
            return None
