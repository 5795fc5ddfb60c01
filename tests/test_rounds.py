import unittest

from afterleaves.books import Book
from afterleaves.errors import NoBook, TooMany, Unlawful
from afterleaves.filling import set_book
from afterleaves.formats import Format
from afterleaves.leaves import Leaf
from afterleaves.looker import Looker, is_plain
from afterleaves.rounds import Rounds, next_round
from afterleaves.settled import settled_books
from afterleaves.textread import read_text
from afterleaves.texts import Text
from tests.randomtexts import random_texts
from tests.samples import fig, names, page, para, setting, setting_book

FORM = Format(20, 6)
LONG = ("xxxxxxxx",) * 16


# Texts whose rounds go round for ever, each a chapter of its own.
RING_OF_3 = ("head ha 1 a", "para ba fee rulesxx see:fa see:fa keeper office office", "para ca rulesxx", "fig fa 1")
RING_OF_4 = ("head hb 1 a", "para bb a late see:fb see:cb desk if", "para cb fee rulesxx a", "para db see:cb fee", "fig fb 1")
RING_OF_5 = ("head hc 1 a", "para bc see:fc if", "para cc if if late desk see:bc see:fc see:bc keeper", "fig fc 1")


class RoundsTest(unittest.TestCase):
    def test_rounds_that_rest(self):
        rounds = Rounds(setting(), FORM)
        self.assertEqual((len(rounds), rounds.ring, rounds.rests), (2, 1, True))
        self.assertEqual(rounds.books[0], set_book(setting(), ("1p2/1a", "2/1a", "1a"), FORM))
        self.assertEqual(rounds.books[1], setting_book())
        self.assertEqual(tuple(rounds), rounds.books)
        self.assertIsInstance(rounds.books, tuple)

    def test_a_text_without_pointers(self):
        rounds = Rounds(Text((para("a", "x"),)), FORM)
        self.assertEqual((len(rounds), rounds.ring, rounds.rests), (1, 1, True))
        empty = Rounds(Text((("contents", "c"),)), FORM)
        self.assertEqual([len(book) for book in empty], [0])

    def test_another_first_page(self):
        told = set_book(setting(), ("1p2/9.9.9b", "2/9.9.9b", "9.9.9b"), FORM)
        for first in (((9, 9, 9), 1), [[9, 9, 9], 1]):
            rounds = Rounds(setting(), FORM, first)
            self.assertEqual(rounds.books[0], told)
            self.assertEqual(rounds.books[-1], setting_book())
        self.assertEqual(Rounds(setting(), FORM, first=page(1)).books, Rounds(setting(), FORM).books)

    def test_each_book_leads_to_the_next_one(self):
        rings = {}
        for text in random_texts(11, 120, (3, 5, 8), (1, 2, 3), chapters=False):
            for form in (Format(20, 4), Format(22, 5, False)):
                try:
                    rounds = Rounds(text, form)
                except NoBook:
                    continue
                books = list(rounds)
                rings[rounds.ring] = rings.get(rounds.ring, 0) + 1
                for book, further in zip(books, books[1:] + [books[-rounds.ring]]):
                    self.assertEqual(next_round(text, form, book), further)
                self.assertTrue(all([book not in books[:k] for k, book in enumerate(books)]))
                self.assertEqual(rounds.rests, rounds.ring == 1)
                if rounds.rests:
                    self.assertTrue(Looker(form)(text, books[-1]))
                    self.assertTrue(is_plain(text, form, books[-1]))
                    self.assertIn(books[-1], settled_books(text, form))
        self.assertGreater(rings[1], 50)

    def test_rings(self):
        for lines, height, count, ring in ((("para a late see:a see:b a see:b keeper", "fig b 1"), 3, 3, 2),
                                           (("para a if rules see:b see:a wigwam desk sum", "fig b 1"), 3, 4, 3)):
            text, form = read_text(lines), Format(20, height)
            rounds = Rounds(text, form)
            self.assertEqual((len(rounds), rounds.ring, rounds.rests), (count, ring, False))
            book = rounds.books[-1]
            for further in rounds.books[-ring:]:
                book = next_round(text, form, book)
                self.assertEqual(book, further)
                self.assertFalse(is_plain(text, form, book))

    def test_a_ring_of_several_books(self):
        text, form = read_text((*RING_OF_3, *RING_OF_4)), Format(20, 4)
        rounds = Rounds(text, form)
        self.assertEqual((len(rounds), rounds.ring, rounds.rests), (13, 12, False))
        book = rounds.books[-1]
        for further in rounds.books[-12:]:
            book = next_round(text, form, book)
            self.assertEqual(book, further)

    def test_too_many_rounds(self):
        self.assertEqual(Rounds(read_text((*RING_OF_4, *RING_OF_5)), Format(20, 4)).ring, 20)
        with self.assertRaises(TooMany) as caught:
            Rounds(read_text((*RING_OF_3, *RING_OF_4, *RING_OF_5)), Format(20, 4))
        self.assertEqual(caught.exception.word, "round")

    def test_errors(self):
        self.assertRaises(NoBook, Rounds, Text((fig("a", 2),)), Format(20, 2))
        with self.assertRaises(TooMany) as caught:
            Rounds(Text([para(name, *LONG) for name in names(17)]), Format(20, 2))
        self.assertEqual(caught.exception.word, "leaf")

    def test_rounds_stay(self):
        rounds = Rounds(setting(), FORM)
        before = (rounds.books, rounds.ring)
        Rounds(Text((para("a", "x"),)), FORM)
        self.assertEqual((rounds.books, rounds.ring), before)
        again = Rounds(setting(), FORM)
        self.assertEqual((again.books, again.ring), before)


class NextTest(unittest.TestCase):
    def test_next(self):
        self.assertEqual(next_round(setting(), FORM, setting_book()), setting_book())
        back = ("1f1 the desk", ":", ":", "1p2 who pays late", "sees 9/9 .")
        self.assertEqual(next_round(setting(), FORM, setting_book((0, "back", back))), setting_book())

    def test_labels_that_no_setting_has(self):
        text = Text((para("a", ("see", "c"), *LONG[:1]), fig("b", 2), fig("c", 2)))
        book = Book((Leaf((5, 1), ("0p1 a/b xxxxxxxx .",), ()), Leaf((5, 2), ("0f1", ":", ":"), ("0f2", ":", ":"))))
        self.assertEqual(next_round(text, Format(20, 3), book), set_book(text, ("0f2/5.2b",), Format(20, 3)))

    def test_a_book_that_does_not_read_well(self):
        for book, fault in ((setting_book((3, "back", ("x",))), ("more",)), (setting_book((2, "front", ("x",))), ("block", 6))):
            with self.assertRaises(Unlawful) as caught:
                next_round(setting(), FORM, book)
            self.assertEqual((caught.exception.edition, caught.exception.fault), (0, fault))

    def test_strokes_are_not_looked_at(self):
        book = setting_book((0, "pen", ((0, 0, 0, "x"), (0, 2, 2, "1p2/here"))))
        self.assertEqual(next_round(setting(), FORM, book), setting_book())


if __name__ == "__main__":
    unittest.main()
