"""Archives for the tests: small ones that are told by letters, and ones of texts that were edited at random."""

from itertools import permutations

from afterleaves.archive import Archive
from afterleaves.books import Book
from afterleaves.errors import AfterError
from afterleaves.formats import Format
from afterleaves.leaves import Leaf
from afterleaves.renewal import Renewal, fresh_book
from afterleaves.texts import Text
from tests.randomtexts import random_edit, random_text

FORM = Format(20, 8)
SMALL = (Format(20, 3), Format(20, 4), Format(24, 4, False), Format(30, 5))


def label_of(told):
    return told if isinstance(told, tuple) else (told,)


def edition(*leaves):
    """A text and a book of it: the leaves (label, front, back) tell letters, each of which is a paragraph of one row."""
    letters = "".join(front + back for label, front, back in leaves)
    text = Text([("para", "p" + chr(97 + k), (letter,)) for k, letter in enumerate(letters)] or [("contents", "none")])
    rows = [f"0p{k + 1} {letter} ." for k, letter in enumerate(letters)]
    made = []
    for label, front, back in leaves:
        made.append(Leaf(label_of(label), rows[:len(front)], rows[len(front):len(front + back)]))
        rows = rows[len(front + back):]
    return (text, Book(made))


def archive_of(*editions, form=FORM):
    """The archive of editions, each told as a tuple of leaves (label, front, back) of letters."""
    pairs = [edition(*leaves) for leaves in editions]
    return Archive(form, [text for text, book in pairs], [book for text, book in pairs])


def random_edition(random, letters):
    """Leaves of an edition at random: the letters in order on leaves with labels that seldom are others."""
    labels = sorted(random.sample([(k,) for k in range(1, 7)] + [(2, 1), (4, 1), (4, 0, 1)], random.randint(1, min(5, len(letters)))))
    cuts = sorted(random.sample(range(1, len(letters)), len(labels) - 1))
    leaves = []
    for label, first, last in zip(labels, [0, *cuts], [*cuts, len(letters)]):
        middle = random.choice((last, last, (first + last + 1) // 2))
        leaves.append((label, letters[first:middle], letters[middle:last]))
    return tuple(leaves)


def random_lettered(random, count=None):
    """An archive of letters at random, in which one letter or the cut of the leaves changes now and then."""
    letters = "abcdefgh"[:random.randint(3, 8)]
    editions = [random_edition(random, letters)]
    for _ in range(random.randint(1, 4) if count is None else count - 1):
        if random.random() < 0.3:
            editions.append(random_edition(random, letters))
            continue
        spot = random.randrange(len(editions[-1]))
        label, front, back = editions[-1][spot]
        changed = (label, random.choice("xyz") + front[1:], back)
        editions.append((*editions[-1][:spot], changed, *editions[-1][spot + 1:]))
    return archive_of(*editions)


def random_archive(random, blocks=(3, 5), pointers=(1, 2, 3), editions=(2, 3, 4, 5), form=None):
    """The archive of a text at random that is edited and renewed again and again."""
    form = form or random.choice(SMALL)
    count = random.choice(editions)
    while True:
        text = random_text(random, random.choice(blocks), random.choice(pointers), 6)
        try:
            texts, books = [text], [fresh_book(text, form)]
            while len(texts) < count:
                text = random_edit(random, random_edit(random, texts[-1]))
                books.append(Renewal(books[-1], text, form).book)
                texts.append(text)
            return Archive(form, texts, books)
        except AfterError:
            continue


def every_row(count, steady, longest=None):
    """All rows of the sendings from 1 to count, those in which one stands twice among them if they have up to longest ones."""
    if steady:
        rows = [tuple(k for k in range(1, count + 1) if bits >> k & 1) for bits in range(0, 2 << count, 2)]
    elif longest is None:
        rows = [row for size in range(count + 1) for row in permutations(range(1, count + 1), size)]
    else:
        rows = [()]
        for row in rows:
            if len(row) < longest:
                rows.extend([(*row, k) for k in range(1, count + 1)])
    return sorted(rows, key=lambda row: (len(row), row))


FAT_NAMES = ("a", "xa", "xb", "xc", "xd", "b", "ya", "yb", "yc", "yd", "c")


def fat_words(name):
    """Sixteen words, of which no two stand in one row."""
    return tuple("mmmmm" + name + chr(97 + k) for k in range(16))


def fat_text():
    """A text of three sections between which blocks of paragraphs stand: rows that fill many leaves, or few."""
    return Text([("para", name, fat_words(name) if len(name) == 2 else (name,)) for name in FAT_NAMES])


def fat_book(x, y):
    """A book of fat_text: x and y tell of each of their four paragraphs on how many leaves it stands, from 1 to 8."""
    leaves = [Leaf((1,), ("0p1 a .",), ())]
    for number, label, counts in ((2, 2, x), (7, 50, y)):
        for k, count in enumerate(counts):
            words = fat_words(FAT_NAMES[number + k - 1])
            rows = [f"0p{number + k} {words[0]}", *words[1:15], words[15] + " ."]
            parts = [rows[at:at + 2] for at in range(0, 2 * count - 2, 2)] + [rows[2 * count - 2:]]
            leaves.extend([Leaf((label + at,), part[:8], part[8:]) for at, part in enumerate(parts)])
            label = label + count
        leaves.append(Leaf((40 if number == 2 else 90,), ("0p6 b ." if number == 2 else "0p11 c .",), ()))
    return Book(leaves)


def fat_archive(*counts):
    """The archive of books of fat_text: the counts are pairs (x, y), each of them the leaves of the paragraphs, or a number for four such."""
    told = [[(count,) * 4 if isinstance(count, int) else count for count in pair] for pair in counts]
    return Archive(FORM, (fat_text(),) * len(told), [fat_book(*pair) for pair in told])


def striped_edition(changed, count=13):
    """A text of paragraphs, each on two leaves: on the first leaf of so many of them a word is changed."""
    words = ["wwwwwww" if k < changed else "mmmmmmm" for k in range(count)]
    text = Text([("para", "p" + chr(97 + k), (word, "mmmmmmm", "mmmmmmm", "mmmmmmm")) for k, word in enumerate(words)])
    leaves = []
    for k, word in enumerate(words):
        leaves.append(Leaf((2 * k + 1,), (f"0p{k + 1} {word}", "mmmmmmm"), ()))
        leaves.append(Leaf((2 * k + 2,), ("mmmmmmm", "mmmmmmm ."), ()))
    return (text, Book(leaves))
