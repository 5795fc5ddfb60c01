import unittest

from afterleaves.books import Book
from afterleaves.errors import BadPages
from afterleaves.lists import contents_entries, index_entry
from afterleaves.texts import Text
from tests.samples import aslists, head, leaf, page, para, setting

BOOK = Book((leaf((1,)), leaf((2,), back=()), leaf((2, 1)), leaf((3,))))


class ContentsTest(unittest.TestCase):
    def test_entries(self):
        self.assertEqual(contents_entries(setting(), (page(1), ((7, 1), 1))),
                         (("-", "1/1a", "what", "is", "paid"), ("-", "2/7.1b", "last", "things")))

    def test_a_text_without_a_contents_block(self):
        text = Text((head("a", 2, ("x", "y")), para("b")))
        self.assertEqual(contents_entries(text, (page(4, "b"),)), (("-", "0.1/4b", "x", "y"),))
        self.assertEqual(contents_entries(text, [[[4], 1]]), (("-", "0.1/4b", "x", "y"),))

    def test_a_text_without_heads(self):
        self.assertEqual(contents_entries(Text((para("a"), ("contents", "c"))), ()), ())


class IndexTest(unittest.TestCase):
    def test_entries(self):
        for pages, ranges in (((), ()), ((page(1),), ("1a",)), ((page(1), page(1, "b"), page(2)), ("1a-2a",)),
                              ((page(2), ((2, 1), 0)), ("2a-2.1a",)), ((page(1), page(2), page(3, "b")), ("1a", "2a", "3b"))):
            self.assertEqual(index_entry("desk", BOOK, pages), ("+", "desk", *ranges))
            self.assertEqual(index_entry("desk", BOOK, aslists(pages)), ("+", "desk", *ranges))

    def test_bad_pages(self):
        for pages in ((page(2, "b"),), (page(9),), (page(2), page(1)), (page(1), page(1)), None, "1a"):
            with self.subTest(pages), self.assertRaises(BadPages):
                index_entry("desk", BOOK, pages)


if __name__ == "__main__":
    unittest.main()
