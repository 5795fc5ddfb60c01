import unittest

from afterleaves.books import Book
from afterleaves.errors import AfterError, BadBook, BadForm, BadOrder, NotThere, TooMany, Unknown
from tests.samples import aslists, leaf

LEAVES = (leaf((7,)), leaf((7, 0, 1), back=()), leaf((7, 1)), leaf((8,)))
PAGES = (((7,), 0), ((7,), 1), ((7, 0, 1), 0), ((7, 0, 1), 1), ((7, 1), 0), ((7, 1), 1), ((8,), 0), ((8,), 1))


class JudgingTest(unittest.TestCase):
    def raised(self, kind, leaves):
        with self.assertRaises(AfterError) as caught:
            Book(leaves)
        self.assertIs(type(caught.exception), kind)
        return caught.exception

    def test_no_leaves(self):
        empty = Book(())
        self.assertEqual((empty.leaves, empty.labels, len(empty), empty.pages(), list(empty)), ((), (), 0, (), []))
        self.assertEqual(empty, Book([]))

    def test_bad_books(self):
        for leaves in (None, "ab", 5, LEAVES[0], Book(LEAVES), (None,), (*LEAVES, "x"), (((7,), ("f",), ("b",), ()),)):
            with self.subTest(leaves):
                self.assertIsInstance(self.raised(BadBook, leaves), BadForm)

    def test_the_number_of_leaves(self):
        leaves = tuple([leaf((k,)) for k in range(1, 62)])
        self.assertEqual(len(Book(leaves[:60])), 60)
        error = self.raised(TooMany, leaves)
        self.assertEqual(error.word, "leaf")
        self.assertNotIsInstance(error, (BadForm, NotThere))
        self.assertEqual(self.raised(TooMany, leaves[::-1]).word, "leaf")
        self.raised(BadBook, (*leaves, None))

    def test_order(self):
        for leaves, place in ((LEAVES[::-1], 1), ((LEAVES[0], LEAVES[0]), 1), ((*LEAVES, leaf((7, 2)), leaf((1,))), 4),
                              ((leaf((7, 1)), leaf((7,))), 1), ((leaf((7,)), leaf((7,), ("other",))), 1)):
            error = self.raised(BadOrder, leaves)
            self.assertEqual(error.place, place)
            self.assertIsInstance(error, BadForm)


class AskingTest(unittest.TestCase):
    def setUp(self):
        self.book = Book(LEAVES)

    def test_attributes(self):
        self.assertEqual(self.book.leaves, LEAVES)
        self.assertEqual(self.book.labels, ((7,), (7, 0, 1), (7, 1), (8,)))
        self.assertEqual(len(self.book), 4)
        self.assertEqual(list(self.book), list(LEAVES))

    def test_by_label(self):
        for made in LEAVES:
            self.assertTrue(made.label in self.book)
            self.assertTrue(list(made.label) in self.book)
            self.assertEqual(self.book[made.label], made)
            self.assertEqual(self.book[list(made.label)], made)
        for label in ((9,), (7, 2), (7, 0), (), "7", 7, None, (True,), ((7,), 0)):
            with self.subTest(label):
                self.assertFalse(label in self.book)
                with self.assertRaises(Unknown) as caught:
                    self.book[label]
                self.assertEqual(caught.exception.name, label)
                self.assertIsInstance(caught.exception, NotThere)

    def test_equality(self):
        self.assertTrue(self.book == Book(list(LEAVES)))
        for other in (Book(LEAVES[:3]), Book((*LEAVES[:3], leaf((8,), pen=((0, 0, 0, "x"),)))), LEAVES, None, Book(())):
            self.assertFalse(self.book == other)
            self.assertTrue(self.book != other)

    def test_same_print(self):
        penned = Book((*LEAVES[:3], leaf((8,), pen=((0, 0, 0, "x"),))))
        self.assertIs(self.book.same_print(penned), True)
        self.assertIs(penned.same_print(self.book), True)
        for other in (Book(LEAVES[:3]), Book(LEAVES[1:]), Book((*LEAVES[:3], leaf((9,)))), Book(()),
                      Book((*LEAVES[:3], leaf((8,), back=())))):
            self.assertIs(self.book.same_print(other), False)
            self.assertIs(other.same_print(self.book), False)
        self.assertIs(Book(()).same_print(Book(())), True)

    def test_pages(self):
        self.assertEqual(self.book.pages(), PAGES)
        self.assertEqual(self.book.pages(), PAGES)

    def test_facing(self):
        self.assertIsNone(self.book.facing(PAGES[0]))
        self.assertIsNone(self.book.facing(PAGES[-1]))
        for k in (1, 3, 5):
            self.assertEqual(self.book.facing(PAGES[k]), PAGES[k + 1])
            self.assertEqual(self.book.facing(PAGES[k + 1]), PAGES[k])
            self.assertEqual(self.book.facing(aslists(PAGES[k])), PAGES[k + 1])

    def test_one_leaf_faces_nothing(self):
        one = Book((LEAVES[0],))
        self.assertIsNone(one.facing(((7,), 0)))
        self.assertIsNone(one.facing(((7,), 1)))

    def test_other_books_face_otherwise(self):
        self.assertEqual(Book((LEAVES[0], LEAVES[3])).facing(((7,), 1)), ((8,), 0))
        self.assertEqual(self.book.facing(((7,), 1)), ((7, 0, 1), 0))

    def test_pages_that_are_not_there(self):
        for page in (((9,), 0), ((7, 2), 1), ((7,), 2), ((7,), -1), None, "7a", ((7,),), ((7,), 0, 0), (None, 0), (7, 0)):
            for ask in (self.book.facing, self.book.text_rows):
                with self.subTest(page), self.assertRaises(Unknown) as caught:
                    ask(page)
                self.assertEqual(caught.exception.name, page)

    def test_leaves_may_come_as_a_list(self):
        leaves = list(LEAVES)
        made = Book(leaves)
        leaves.pop()
        self.assertEqual(made.leaves, LEAVES)


class TextRowsTest(unittest.TestCase):
    def rows(self, front, pen=()):
        return Book((leaf((1,), front, pen=pen),)).text_rows(((1,), 0))

    def test_text_rows(self):
        self.assertEqual(self.rows(("a b", "c", "* d", "e", "* f")), (("a", "b"), ("c",)))
        self.assertEqual(self.rows(("a b", "c")), (("a", "b"), ("c",)))
        self.assertEqual(self.rows(("*", "c")), ())
        self.assertEqual(self.rows(("a *", "(*) b", "** c", "*d", "* d")), (("a", "*"), ("(*)", "b"), ("**", "c"), ("*d",)))

    def test_a_back_without_rows(self):
        made = Book(LEAVES)
        self.assertEqual(made.text_rows(((7, 0, 1), 1)), ())
        self.assertEqual(made.text_rows(((7, 0, 1), 0)), (("f",),))
        self.assertEqual(made.text_rows([[7], 1]), (("b",),))

    def test_what_is_said(self):
        self.assertEqual(self.rows(("a b", "c"), ((0, 0, 1, "x"), (0, 1, 0, "y"))), (("a", "x"), ("y",)))

    def test_the_print_tells_what_foot_rows_are(self):
        self.assertEqual(self.rows(("a b", "* c", "d"), ((0, 0, 0, "*"), (0, 1, 0, "x"))), (("*", "b"),))


if __name__ == "__main__":
    unittest.main()
