import unittest
from itertools import combinations

from afterleaves.books import Book
from afterleaves.errors import BadForm, BadPages, NotThere
from afterleaves.ranges import preferred_ranges, ranges_true, read_range, told_pages, write_range
from tests.samples import aslists, leaf

# The back of the leaf 2 and that of the leaf 3 have no rows.
BOOK = Book((leaf((1,)), leaf((2,), back=()), leaf((2, 1), back=()), leaf((3,))))
P1A, P1B, P2A, P2B, P21A, P21B, P3A, P3B = BOOK.pages()
SHOWN = (P1A, P1B, P2A, P21A, P3A, P3B)
EMPTY = Book(())
GONE = ((4,), 0)


def all_sets():
    for count in range(len(SHOWN) + 1):
        for pages in combinations(SHOWN, count):
            yield pages


def all_pairs(pages):
    return [(one, other) for one in pages for other in pages if one <= other]


class PreferredTest(unittest.TestCase):
    def test_ranges(self):
        for pages, pairs in (((), ()), ((P1A,), ((P1A, P1A),)), ((P3B,), ((P3B, P3B),)), ((P1A, P1B), ((P1A, P1B),)),
                             ((P1A, P2A), ((P1A, P1A), (P2A, P2A))), (SHOWN, ((P1A, P3B),)),
                             ((P1A, P2A, P21A, P3A), ((P1A, P1A), (P2A, P3A))),
                             ((P1B, P2A, P3A), ((P1B, P2A), (P3A, P3A)))):
            with self.subTest(pages):
                self.assertEqual(preferred_ranges(BOOK, pages), pairs)

    def test_pages_without_rows_lie_between(self):
        self.assertEqual(preferred_ranges(BOOK, (P2A, P21A)), ((P2A, P21A),))
        self.assertEqual(preferred_ranges(BOOK, (P2A, P21A, P3A)), ((P2A, P3A),))
        self.assertEqual(preferred_ranges(BOOK, (P2A, P3A)), ((P2A, P2A), (P3A, P3A)))

    def test_they_are_the_fewest_that_are_true(self):
        for pages in all_sets():
            pairs = preferred_ranges(BOOK, pages)
            self.assertTrue(ranges_true(BOOK, pairs, pages))
            told = [page for pair in pairs for page in pair]
            self.assertEqual(told, sorted(told))
            self.assertTrue(all([page in pages for page in told]))
            for fewer in combinations(all_pairs(SHOWN), max(len(pairs) - 1, 0)):
                if len(fewer) < len(pairs):
                    self.assertFalse(ranges_true(BOOK, fewer, pages))

    def test_bad_pages(self):
        for pages in (None, "1a", 5, (P2B,), (P1A, P21B), (GONE,), (P1A, P1A), (P1B, P1A), (P1A, None), ("1a",), (((1,),),),
                      (((1,), 2),), (((1,), True),), (((True,), 0),), (((1,), 0, 0),), ((1, 0),), {}, (P1A, P3B, P3A), P1A):
            with self.subTest(pages), self.assertRaises(BadPages) as caught:
                preferred_ranges(BOOK, pages)
            self.assertIsInstance(caught.exception, BadForm)
            self.assertNotIsInstance(caught.exception, NotThere)

    def test_the_book_without_leaves(self):
        self.assertEqual(preferred_ranges(EMPTY, ()), ())
        with self.assertRaises(BadPages):
            preferred_ranges(EMPTY, (P1A,))

    def test_a_page_of_foot_rows_has_rows(self):
        book = Book((leaf((1,), back=("* note",)), leaf((2,))))
        self.assertEqual(preferred_ranges(book, (((1,), 0), ((2,), 0))), ((((1,), 0),) * 2, (((2,), 0),) * 2))

    def test_lists(self):
        pages = aslists((P1A, P1B))
        self.assertEqual(preferred_ranges(BOOK, pages), ((P1A, P1B),))
        self.assertEqual(pages, aslists((P1A, P1B)))


class TrueTest(unittest.TestCase):
    def test_true(self):
        for pairs, pages in (((), ()), (((P1A, P1A),), (P1A,)), (((P1A, P1B), (P1B, P2A)), (P1A, P1B, P2A)),
                             (((P3A, P3B), (P1A, P1A)), (P1A, P3A, P3B)), (((P1A, P1A), (P1B, P1B)), (P1A, P1B)),
                             (((P2A, P2B),), (P2A,)), (((P2B, P21A),), (P21A,)), (((P2B, P2B),), ()), (((P2A, P21B),), (P2A, P21A)),
                             (((P1A, P3B),), SHOWN), (((P1A, P1A),) * 2, (P1A,)), (((P1B, P3A), (P2A, P2B)), SHOWN[1:5])):
            with self.subTest(pairs):
                self.assertIs(ranges_true(BOOK, pairs, pages), True)
                self.assertIs(ranges_true(BOOK, aslists(pairs), aslists(pages)), True)

    def test_not_true(self):
        for pairs, pages in (((), (P1A,)), (((P1A, P1A),), ()), (((P1A, P1B),), (P1A,)), (((P1A, P2A),), (P1A, P2A)),
                             (((P1B, P1A),), (P1A, P1B)), (((P1B, P1A),), ()), (((P1A, P1A), (P1B, P1A)), (P1A,)),
                             (((P1A, P1A), (P1A, GONE)), (P1A,)), (((GONE, GONE),), ()), (((P3B, GONE),), (P3B,)),
                             (((((1, 1), 0), P2A),), (P2A,)), (((P1A, P1A),), (P1B,)), (((P2B, P2A),), ()), (((P2B, P2A),), (P2A,))):
            with self.subTest(pairs):
                self.assertIs(ranges_true(BOOK, pairs, pages), False)

    def test_the_book_without_leaves(self):
        self.assertIs(ranges_true(EMPTY, (), ()), True)
        self.assertIs(ranges_true(EMPTY, ((P1A, P1A),), ()), False)


class ToldTest(unittest.TestCase):
    def test_told_pages(self):
        for pairs, pages in (((), ()), (((P1A, P1A),), (P1A,)), (((P2A, P3A),), (P2A, P21A, P3A)), (((P2B, P2B),), ()),
                             (((P3A, P3B), (P1A, P1B), (P1B, P2B)), (P1A, P1B, P2A, P3A, P3B)), (((P1A, P3B),), SHOWN),
                             (((P1B, P1A),), ()), (((P1A, GONE),), ()), (((GONE, GONE), (P3A, P3A)), (P3A,)),
                             (((((1, 1), 0), P3B),), ()), (((P3B, P1A), (P21B, P3A)), (P3A,))):
            with self.subTest(pairs):
                self.assertEqual(told_pages(BOOK, pairs), pages)
                listed = aslists(pairs)
                self.assertEqual(told_pages(BOOK, listed), pages)
                self.assertEqual(listed, aslists(pairs))

    def test_the_book_without_leaves(self):
        self.assertEqual(told_pages(EMPTY, ((P1A, P1A),)), ())


class TokensTest(unittest.TestCase):
    def test_tokens(self):
        for pair, token in (((P1A, P1A), "1a"), ((P1A, P1B), "1a-1b"), ((P2B, P21A), "2b-2.1a"), ((P1B, P1A), "1b-1a"),
                            ((GONE, ((4, 0, 99), 1)), "4a-4.0.99b")):
            self.assertEqual(write_range(pair), token)
            self.assertEqual(write_range(aslists(pair)), token)
            self.assertEqual(read_range(token), pair)
        self.assertEqual(read_range("1a-1a"), (P1A, P1A))

    def test_lists_and_tuples_of_one_page(self):
        self.assertEqual(write_range((P1A, [[1], 0])), "1a")

    def test_no_ranges(self):
        for token in ("", "-", "1", "1a-", "-1a", "1a-1b-2a", "1a--1b", "1a-1", "a-b", "1a 1b", "1p1/1a", "01a", "0a", "1a-0b",
                      "here", "+", "1c", "1a-1c"):
            with self.subTest(token):
                self.assertIsNone(read_range(token))

    def test_books_stay(self):
        before = Book(BOOK.leaves)
        for pages in all_sets():
            self.assertEqual(preferred_ranges(BOOK, pages), preferred_ranges(BOOK, pages))
        self.assertEqual(BOOK, before)


if __name__ == "__main__":
    unittest.main()
