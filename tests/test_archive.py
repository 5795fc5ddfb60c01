import unittest
from random import Random

from afterleaves.archive import Archive
from afterleaves.books import Book
from afterleaves.errors import BadArchive, BadForm, NotThere, TooMany, Unknown, Unlawful
from afterleaves.formats import Format
from afterleaves.leaves import Leaf
from afterleaves.packets import packet_between
from afterleaves.reached import binders, rows_to
from afterleaves.texts import Text
from tests.archives import FORM, archive_of, edition, every_row, fat_archive, fat_book, fat_text, random_archive, random_lettered, striped_edition
from tests.samples import setting, setting_book

# Three sendings, each of which changes one leaf, the last one both.
FOUR = archive_of(((1, "a", ""), (2, "b", "")), ((1, "x", ""), (2, "b", "")), ((1, "x", ""), (2, "y", "")), ((1, "z", ""), (2, "z", "")))
SAME = archive_of(*[((1, "a", ""), (2, "b", ""))] * 5)
ONE = archive_of(((1, "a", ""),))


def words(binder):
    """The words of the paragraphs of one row of a binder of letters."""
    return "".join(row.split(" ")[1] for each in binder for row in each.front + each.back)


def tried(archive, steady):
    """The binders that are reached, each with its least row, found by filing all rows, some sendings in them twice."""
    found = []
    for row in every_row(len(archive), steady, None if len(archive) > 3 else 4):
        binder = archive.binder(row)
        if binder not in [other for other, _ in found]:
            found.append((binder, row))
    return tuple(found)


class ArchiveTest(unittest.TestCase):
    def test_attributes(self):
        texts, books = zip(*[edition((1, "a", "")), edition((1, "b", ""), (2, "c", ""))])
        archive = Archive(FORM, list(texts), list(books))
        self.assertEqual((archive.form, archive.texts, archive.books), (FORM, texts, books))
        self.assertEqual((archive.newest, len(archive)), (books[1], 1))
        self.assertEqual((len(ONE), ONE.newest, len(SAME), len(FOUR)), (0, ONE.books[0], 4, 3))

    def test_packets(self):
        for k in (1, 2, 3):
            self.assertEqual(FOUR.packet(k), packet_between(FOUR.books[k - 1], FOUR.books[k]))
        self.assertEqual([len(FOUR.packet(k)) for k in (1, 2, 3)], [1, 1, 2])
        self.assertEqual(SAME.packet(3).stretches, ())
        for k in (0, 4, -1):
            with self.assertRaises(Unknown) as caught:
                FOUR.packet(k)
            self.assertEqual(caught.exception.name, k)
        self.assertRaises(Unknown, ONE.packet, 1)

    def test_binders(self):
        for row, told in (((), "ab"), ((1,), "xb"), ((2,), "ay"), ((2, 1), "xy"), ((1, 2, 3), "zz"), ((3, 1), "xz"), ((3, 2, 1), "xy"),
                          ((1, 3, 1, 3, 1), "xz"), ((2,) * 60, "ay")):
            self.assertEqual(words(FOUR.binder(row)), told)
            self.assertEqual(FOUR.binder(list(row)), FOUR.binder(row))
        self.assertEqual(ONE.binder(()), ONE.books[0])
        self.assertEqual(FOUR.binder(()), FOUR.books[0])
        for row, name in (((1, 4, 5), 4), ((0,), 0), ((1, -1), -1)):
            with self.assertRaises(Unknown) as caught:
                FOUR.binder(row)
            self.assertEqual(caught.exception.name, name)
            self.assertIsInstance(caught.exception, NotThere)

    def test_forms(self):
        text, book = edition((1, "a", ""))
        for form in (None, "x", (20, 8), True):
            self.wrong("format", form, None, None)
        for texts in (None, text, (), (text,) * 6, (text, None), (book,), "x"):
            self.wrong("texts", FORM, texts, None)
        for books in (None, book, (), (book,), (book,) * 3, (book, None), (text, text)):
            self.wrong("books", FORM, (text, text), books)
        self.assertEqual(len(Archive(FORM, (text,) * 5, (book,) * 5)), 4)

    def wrong(self, word, *parts):
        with self.subTest(parts), self.assertRaises(BadArchive) as caught:
            Archive(*parts)
        self.assertEqual(caught.exception.word, word)
        self.assertIsInstance(caught.exception, BadForm)

    def test_unlawful(self):
        (text, book), (other, further) = edition((1, "a", "")), edition((1, "b", ""))
        for books, k, fault in (((book, book), 1, ("block", 0)), ((further, book), 0, ("block", 0)), ((book, Book(())), 1, ("block", 0)),
                                ((Book((*book, Leaf((2,), ("x",), ()))), book), 0, ("more",))):
            with self.assertRaises(Unlawful) as caught:
                Archive(FORM, (text, other), books)
            self.assertEqual((caught.exception.edition, caught.exception.fault), (k, fault))
            self.assertNotIsInstance(caught.exception, (BadForm, NotThere))
        marked = Book((Leaf((1,), ("0p1 a .",), (), ((0, 0, 1, "b"),)),))
        with self.assertRaises(Unlawful) as caught:
            Archive(FORM, (text, text), (book, marked))
        self.assertEqual(caught.exception.fault, ("pen", (1,)))

    def test_strokes(self):
        form = Format(20, 6)
        lawful = setting_book((0, "pen", ((0, 2, 2, "1p2/1b"),)))
        with self.assertRaises(BadArchive) as caught:
            Archive(form, (setting(),) * 2, (setting_book(), lawful))
        self.assertEqual(caught.exception.word, "pen")
        self.assertRaises(Unlawful, Archive, form, (setting(), setting(), Text(setting().blocks[:1])), (lawful, setting_book(), lawful))

    def raised(self, word, *editions):
        with self.assertRaises(TooMany) as caught:
            Archive(FORM, [text for text, book in editions], [book for text, book in editions])
        self.assertEqual(caught.exception.word, word)

    def test_sendings_that_are_no_packets(self):
        empty, forty = edition(), (fat_text(), fat_book((8, 8, 8, 8), (2, 1, 1, 1)))
        more = (fat_text(), fat_book((8, 8, 8, 8), (2, 2, 1, 1)))
        self.assertEqual(len(archive_of_pairs(empty, forty).packet(1)), 40)
        plain, twelve, thirteen = striped_edition(0), striped_edition(12), striped_edition(13)
        self.assertEqual(len(archive_of_pairs(plain, twelve).packet(1).stretches), 12)
        for word, editions in (("leaf", (empty, more)), ("stretch", (plain, thirteen)), ("leaf", (plain, twelve, empty, more, empty, thirteen)[:5]),
                               ("stretch", (thirteen, plain, empty, more))):
            with self.assertRaises(TooMany) as caught:
                archive_of_pairs(*editions)
            self.assertEqual(caught.exception.word, word)
        # That a book is not lawful goes ahead.
        self.assertRaises(Unlawful, archive_of_pairs, empty, more, (empty[0], more[1]))


def archive_of_pairs(*editions):
    return Archive(FORM, [text for text, book in editions], [book for text, book in editions])


class ReachedTest(unittest.TestCase):
    def test_told(self):
        told = [(words(binder), row) for binder, row in binders(FOUR)]
        self.assertEqual(told, [("ab", ()), ("xb", (1,)), ("ay", (2,)), ("zz", (3,)), ("xy", (1, 2))])
        told = [(words(binder), row) for binder, row in binders(FOUR, steady=False)]
        self.assertEqual(told, [("ab", ()), ("xb", (1,)), ("ay", (2,)), ("zz", (3,)), ("xy", (1, 2)), ("xz", (3, 1)), ("zy", (3, 2))])

    def test_no_sending_and_editions_with_the_same_book(self):
        for archive in (ONE, SAME):
            for steady in (True, False):
                self.assertEqual(binders(archive, steady=steady), ((archive.books[0], ()),))
        self.assertEqual(rows_to(ONE, ONE.newest), ((),))
        self.assertEqual(rows_to(SAME, SAME.newest), tuple(every_row(4, True)))
        self.assertEqual(rows_to(SAME, SAME.newest, steady=False), tuple(every_row(4, False)))
        self.assertEqual(len(rows_to(SAME, SAME.newest, steady=False)), 65)
        back = archive_of(((1, "a", ""),), ((1, "x", ""),), ((1, "a", ""),))
        self.assertEqual(binders(back), ((back.books[0], ()), (back.books[1], (1,))))
        self.assertEqual(rows_to(back, back.books[2]), ((), (2,), (1, 2)))

    def test_rows(self):
        self.assertEqual(rows_to(FOUR, FOUR.newest), ((3,), (1, 3), (2, 3), (1, 2, 3)))
        self.assertEqual(rows_to(FOUR, FOUR.books[2]), ((1, 2),))
        self.assertEqual(rows_to(FOUR, FOUR.books[2], steady=False), ((1, 2), (2, 1), (3, 1, 2), (3, 2, 1)))
        for binder in (Book(()), Book((*FOUR.newest, Leaf((9,), ("x",), ()))), Book((FOUR.newest.leaves[0],)), edition((1, "q", ""), (2, "b", ""))[1]):
            self.assertEqual(rows_to(FOUR, binder, steady=False), ())

    def test_binders_are_compared_by_their_prints(self):
        marked = Book([Leaf(each.label, each.front, each.back, ((0, 0, 1, "q"),)) for each in FOUR.books[2]])
        self.assertEqual(rows_to(FOUR, marked), ((1, 2),))
        self.assertEqual(marked.leaves[0].pen, ((0, 0, 1, "q"),))

    def test_tried_against_all_rows(self):
        random = Random(71)
        most = 0
        for _ in range(60):
            archive = random_lettered(random) if random.random() < 0.7 else random_archive(random)
            for steady in (True, False):
                found = tried(archive, steady)
                self.assertEqual(binders(archive, steady=steady), found)
                most = max(most, len(found))
                for binder, row in found:
                    rows = rows_to(archive, binder, steady=steady)
                    self.assertEqual(rows, tuple(other for other in every_row(len(archive), steady) if archive.binder(other) == binder))
                    self.assertEqual(rows[0], row)
        self.assertGreater(most, 12)

    def test_all_sendings_behind_any_row(self):
        random = Random(72)
        for _ in range(20):
            archive = random_lettered(random, 5)
            for row in every_row(4, False):
                self.assertEqual(archive.binder((*row, 1, 2, 3, 4)), archive.newest)

    def test_a_sending_that_stands_twice(self):
        random = Random(73)
        for _ in range(20):
            archive = random_lettered(random, 4)
            for _ in range(20):
                row = [random.randint(1, 3) for _ in range(random.randint(2, 8))]
                rest = [k for at, k in enumerate(row) if k not in row[at + 1:]]
                self.assertEqual(archive.binder(row), archive.binder(rest))

    def test_sixty_leaves_and_sixty_one(self):
        fits = fat_archive((8, 1), (1, 1), (1, (8, 8, 8, 1)))
        self.assertEqual(len(fits.binder((2,))), 60)
        self.assertEqual(len(binders(fits)), 4)
        more = fat_archive((8, 1), (1, 1), (1, (8, 8, 8, 2)))
        for steady in (True, False):
            for call in (binders, rows_to):
                with self.assertRaises(TooMany) as caught:
                    call(*((more,) if call is binders else (more, more.books[0])), steady=steady)
                self.assertEqual(caught.exception.word, "leaf")
        self.assertRaises(TooMany, more.binder, (2,))
        self.assertEqual(more.binder((1, 2)), more.newest)
        # An unknown sending goes ahead of too many leaves.
        self.assertRaises(Unknown, more.binder, (2, 3))
        hasty = fat_archive((1, 1), (8, 1), (1, (8, 8, 8, 2)))
        self.assertEqual(len(binders(hasty)), 3)
        self.assertRaises(TooMany, binders, hasty, steady=False)

    def test_what_is_passed_stays(self):
        texts, books = list(FOUR.texts), list(FOUR.books)
        archive = Archive(FORM, texts, books)
        texts.pop()
        books.pop()
        self.assertEqual((len(archive.texts), len(archive.books)), (4, 4))
        before = [archive.packet(k) for k in (1, 2, 3)]
        binder = archive.binder((1,))
        self.assertEqual(binders(archive, steady=False), binders(archive, steady=False))
        self.assertEqual([archive.packet(k) for k in (1, 2, 3)], before)
        self.assertEqual((binder, archive.binder((1,))), (binder, binder))
        self.assertEqual(archive.books, FOUR.books)


if __name__ == "__main__":
    unittest.main()
