import unittest
from itertools import product

from afterleaves.errors import AfterError, TooMany
from afterleaves.filling import set_book
from afterleaves.formats import Format
from afterleaves.labels import write_page
from afterleaves.looker import is_plain
from afterleaves.reading import Reading
from afterleaves.rounds import Rounds, next_round
from afterleaves.settled import settled_books
from afterleaves.textread import read_text
from afterleaves.texts import Text
from tests.randomtexts import random_texts
from tests.samples import fig, names, page, para, setting, setting_book

LONG = ("xxxxxxxx",) * 16
PAGES = [write_page(page(number, side)) for number in range(1, 5) for side in "ab"]


def tried(text, form):
    """The settled books on at most four leaves, found by setting the text with all tokens that there can be."""
    choices = []
    for k, item in text.pointers():
        targets = text.targets(k, item)
        if len(targets) == 2:
            choices.append([*PAGES, *[f"{one}-{two}" for one in PAGES for two in PAGES if one < two]])
        else:
            words = PAGES + ["here", "overleaf", "facing"] * form.near
            choices.append([f"{text.numbers[targets[0]]}/{word}" for word in words])
    books = []
    for told in product(*choices):
        try:
            book = set_book(text, told, form)
        except AfterError:
            continue
        if next_round(text, form, book) == book:
            books.append(book)
    return books


def prints(book):
    return tuple((leaf.label, leaf.front, leaf.back) for leaf in book)


class SettledTest(unittest.TestCase):
    def test_one(self):
        self.assertEqual(settled_books(setting(), Format(20, 6)), (setting_book(),))

    def test_a_text_without_pointers(self):
        text = Text((para("a", "x"), ("index", "i", ("x",))))
        self.assertEqual(settled_books(text, Format(20, 6)), (set_book(text, (), Format(20, 6)),))
        empty = settled_books(Text((("contents", "c"),)), Format(20, 6))
        self.assertEqual([len(book) for book in empty], [0])

    def test_numbers_of_books(self):
        for lines, height, count in ((("para a late see:a see:b a see:b keeper", "fig b 1"), 3, 0),
                                     (("para a late sum", "para b see:a if"), 2, 2),
                                     (("para a see:b fee", "para b late rules pays see:b see:b see:b fee"), 4, 3),
                                     (("para a see:a see:c who a", "para b fee sum", "para c binder late sum if rules see:b"), 3, 1),
                                     (("para a wigwam fee a desk fee see:b mammal", "para b rules",
                                       "para c note:late:keeper:office rules span:a:b see:c a see:c rules if office",
                                       "contents list"), 4, 4)):
            text, form = read_text(lines), Format(20, height)
            books = settled_books(text, form)
            self.assertEqual(len(books), count)
            self.assertIsInstance(books, tuple)
            self.assertEqual(sorted(prints(book) for book in books), [prints(book) for book in books])
            for book in books:
                self.assertTrue(is_plain(text, form, book))
                self.assertEqual(next_round(text, form, book), book)
            self.assertEqual(settled_books(text, form), books)

    def test_all_tokens_tried(self):
        found = {}
        for text in random_texts(31, 60, (2, 3), (0, 1, 1, 2), items=5, chapters=False):
            for form in (Format(20, 4), Format(20, 3), Format(22, 4, False)):
                books = settled_books(text, form)
                if all(len(book) <= 4 for book in books):
                    self.assertEqual(sorted(prints(book) for book in tried(text, form)), [prints(book) for book in books])
                    found[len(books)] = found.get(len(books), 0) + 1
        self.assertGreater(found[2], 0)
        self.assertGreater(found[1], 50)

    def test_they_are_where_rounds_rest(self):
        text, form = read_text(("para a late sum", "para b see:a if")), Format(20, 2)
        books = settled_books(text, form)
        ends = [Rounds(text, form, page(number, side)).books[-1] for number in (1, 10) for side in "ab"]
        self.assertTrue(all(book in books for book in ends))
        for book in books:
            reading = Reading(text, form, book)
            self.assertEqual(len(reading.places), 2)

    def test_labels_of_two_digits(self):
        blocks = [para(name, *LONG) for name in names(8)] + [para("see", *LONG[:4], ("see", "last"), "x"), para("last", ("see", "aa"), "x")]
        text, form = Text(blocks), Format(20, 3)
        books = settled_books(text, form)
        self.assertEqual(len(books), 1)
        self.assertGreater(len(books[0]), 12)
        self.assertEqual(books[0], Rounds(text, form).books[-1])

    def test_no_book(self):
        self.assertEqual(settled_books(Text((fig("a", 2),)), Format(20, 2)), ())
        self.assertEqual(settled_books(Text([para(name, *LONG) for name in names(17)]), Format(20, 2)), ())
        self.assertEqual(settled_books(Text([para(name, *LONG) for name in names(16)] + [("index", "i", ("x",))]), Format(20, 2)), ())

    def test_four_pointers_and_five(self):
        four = Text((para("a", *((("see", "a"),) * 4)),))
        self.assertEqual(len(settled_books(four, Format(60, 4))), 1)
        with self.assertRaises(TooMany) as caught:
            settled_books(Text((para("a", *((("see", "a"),) * 5)),)), Format(60, 4))
        self.assertEqual(caught.exception.word, "pointer")


if __name__ == "__main__":
    unittest.main()
