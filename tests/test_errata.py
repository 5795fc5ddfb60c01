import unittest
from itertools import product
from random import Random

from afterleaves.books import Book
from afterleaves.errata import Errata, needed, parting
from afterleaves.errors import AfterError, BadCorrection, BadErrata, BadForm, NotThere, TooMany
from afterleaves.leaves import Leaf
from tests.samples import aslists, leaf, page, setting_book

A, B = page(1), page(2, "b")


def at(old, new, place=(A, 0, 0)):
    return (*place, old, new)


def said(book):
    return [[one.said_rows(side) for side in (0, 1)] for one in book]


class FormTest(unittest.TestCase):
    def test_attributes(self):
        errata = Errata([[[[1], 0], 0, 3, "a", "b"]])
        self.assertEqual(errata.corrections, ((A, 0, 3, "a", "b"),))
        self.assertEqual(tuple(errata), errata.corrections)
        self.assertEqual(len(errata), 1)
        self.assertEqual(len(Errata(())), 0)
        self.assertEqual(Errata(()).table(), ())

    def test_equal(self):
        one = Errata((at("a", "b"), at("c", "d")))
        self.assertTrue(one == Errata([at("a", "b"), list(at("c", "d"))]))
        self.assertFalse(one == Errata((at("c", "d"), at("a", "b"))))
        self.assertFalse(one == one.corrections)
        self.assertFalse(Errata(()) == ())

    def test_no_tuple(self):
        for thing in (None, "x", 5, {}, Book(())):
            with self.subTest(thing), self.assertRaises(BadErrata) as caught:
                Errata(thing)
            self.assertIsInstance(caught.exception, BadForm)

    def test_sixty_and_sixty_one(self):
        many = tuple(at("a", "b", (page(k), 0, 0)) for k in range(1, 62))
        self.assertEqual(len(Errata(many[:60])), 60)
        for thing in (many, (None,) * 61):
            with self.assertRaises(TooMany) as caught:
                Errata(thing)
            self.assertEqual(caught.exception.word, "correction")
            self.assertNotIsInstance(caught.exception, (BadForm, NotThere))

    def test_bounds(self):
        for row, word, old, new in ((0, 0, "a", "b"), (11, 29, "a" * 20, "b" * 20), (11, 0, "(*)", "/"), (0, 29, "A", "a")):
            Errata(((A, row, word, old, new),))

    def test_bad_corrections(self):
        good = at("a", "b")
        for thing in (None, (), "x", (A, 0, 0, "a"), (A, 0, 0, "a", "b", "c"), (A, 0, 0, "a", "a"), (A, 12, 0, "a", "b"),
                      (A, -1, 0, "a", "b"), (A, 0, 30, "a", "b"), (A, 0, -1, "a", "b"), (A, True, 0, "a", "b"), (A, 0, False, "a", "b"),
                      (A, 0, 0, "", "b"), (A, 0, 0, "a", ""), (A, 0, 0, "a b", "c"), (A, 0, 0, "a", "b c"), (A, 0, 0, "a" * 21, "b"),
                      (A, 0, 0, "a", "b" * 21), (A, 0, 0, 5, "b"), (A, 0, 0, "a", None), ((1,), 0, 0, "a", "b"), ("1a", 0, 0, "a", "b"),
                      (((1,), 2), 0, 0, "a", "b"), (((0,), 0), 0, 0, "a", "b"), (((1,), True), 0, 0, "a", "b"), (None, 0, 0, "a", "b")):
            for spot in (0, 2):
                with self.subTest(thing), self.assertRaises(BadCorrection) as caught:
                    Errata((good,) * spot + (thing, None))
                self.assertEqual(caught.exception.place, spot)
                self.assertIsInstance(caught.exception, BadForm)


class CarryingOutTest(unittest.TestCase):
    def test_strokes(self):
        book = setting_book((2, "pen", ((0, 0, 1, "1/9a"),)))
        errata = Errata((at("1p2/overleaf", "1p2/1b", (A, 2, 2)), at("1/9a", "1/8a", (page(3), 0, 1)), at("closes", "x", (page(2), 2, 0))))
        behind = errata(book)
        self.assertEqual([one.pen for one in behind], [((0, 2, 2, "1p2/1b"),), ((0, 2, 0, "x"),), ((0, 0, 1, "1/8a"),), ()])
        self.assertTrue(behind.same_print(book))
        self.assertEqual(book, setting_book((2, "pen", ((0, 0, 1, "1/9a"),))))

    def test_what_does_nothing(self):
        book = setting_book()
        for correction in (at("x", "y"), at("1", "2", (page(9), 0, 0)), at("1", "2", (A, 5, 0)), at("1", "2", (A, 0, 4)),
                           at("1", "2", (page(2, "b"), 0, 0)), at("1", "2", (A, 1, 0))):
            self.assertEqual(Errata((correction,))(book), book)
        self.assertEqual(Errata(())(book), book)
        self.assertEqual(Errata((at("a", "b"),))(Book(())), Book(()))

    def test_one_behind_the_other(self):
        book = Book((Leaf((1,), ("a",), ()),))
        for turns, token in ((("ab", "bc"), "c"), (("bc", "ab"), "b"), (("ab", "ba"), "a"), (("ab", "ab"), "b"), (("ab", "bc", "ca", "ad"), "d")):
            behind = Errata([at(*turn) for turn in turns])(book)
            self.assertEqual(behind.leaves[0].pen, ((0, 0, 0, token),))

    def test_twice_or_elsewhere(self):
        book = Book((Leaf((1,), ("a",), ()),))
        once = Errata((at("a", "b"),))
        self.assertEqual(once(once(book)), once(book))
        turn = Errata((at("a", "b"), at("b", "a")))
        self.assertEqual(said(turn(book)), said(book))
        swap = Errata((at("a", "x"), at("b", "a"), at("x", "b")))
        self.assertEqual(said(swap(swap(book))), said(book))
        self.assertEqual(swap(Book((Leaf((1,), ("c",), ()),))), Book((Leaf((1,), ("c",), ()),)))

    def test_far_places(self):
        row = " ".join(["x"] * 30)
        book = Book((Leaf((1,), ("y",), (row,) * 12),))
        behind = Errata((at("x", "w" * 20, (page(1, "b"), 11, 29)),))(book)
        self.assertEqual(behind.leaves[0].pen, ((1, 11, 29, "w" * 20),))


class TableTest(unittest.TestCase):
    def test_tables(self):
        for corrections, table in (((), ()), ((at("a", "b"),), (at("a", "b"),)), ((at("a", "b"), at("b", "a")), (at("b", "a"),)),
                                   ((at("a", "b"), at("b", "c")), (at("a", "c"), at("b", "c"))),
                                   ((at("b", "c"), at("a", "b")), (at("a", "b"), at("b", "c"))),
                                   ((at("a", "b"), at("a", "c")), (at("a", "b"),)),
                                   ((at("x", "y", (B, 1, 2)), at("a", "b", (A, 1, 0)), at("c", "d", (A, 0, 9))),
                                    ((A, 0, 9, "c", "d"), (A, 1, 0, "a", "b"), (B, 1, 2, "x", "y")))):
            self.assertEqual(Errata(corrections).table(), table)

    def test_turned(self):
        errata = Errata((at("a", "b"), at("b", "c"), at("x", "y", (B, 1, 2))))
        for place, token, turned in (((A, 0, 0), "a", "c"), ((A, 0, 0), "b", "c"), ((A, 0, 0), "c", "c"), ((A, 0, 1), "a", "a"),
                                     ((A, 1, 0), "a", "a"), ((B, 1, 2), "x", "y"), ((page(1, "b"), 0, 0), "a", "a")):
            self.assertEqual(errata.turned(*place, token), turned)
            self.assertEqual(errata.turned(aslists(place[0]), *place[1:], token), turned)

    def test_sums(self):
        one, other = Errata((at("a", "b"),)), Errata((at("b", "c"), at("a", "x")))
        self.assertEqual((one + other).corrections, (at("a", "b"), at("b", "c"), at("a", "x")))
        self.assertEqual((other + one).corrections, (at("b", "c"), at("a", "x"), at("a", "b")))
        self.assertEqual((len(one), len(other)), (1, 2))
        book = Book((leaf((1,), ("a b",)), leaf((2,))))
        self.assertEqual((one + other)(book), other(one(book)))
        half = Errata([at("a", "b", (page(k), 0, 0)) for k in range(1, 32)])
        self.assertRaises(TooMany, lambda: half + half)
        self.assertEqual(len(half + Errata(half.corrections[:29])), 60)


class PartingTest(unittest.TestCase):
    def test_lists_that_do_the_same(self):
        for one, other in (((), ()), ((at("a", "b"), at("b", "a")), (at("b", "a"),)), ((at("a", "b"), at("a", "c")), (at("a", "b"),)),
                           ((at("a", "b"), at("x", "y", (B, 0, 0))), (at("x", "y", (B, 0, 0)), at("a", "b")))):
            self.assertIsNone(parting(Errata(one), Errata(other)))

    def test_lists_that_part(self):
        far = (page(1, "b"), 11, 29)
        for one, other in (((), (at("a", "b"),)), ((at("a", "b"),), (at("a", "c"),)), ((at("a", "b"), at("b", "c")), (at("b", "c"), at("a", "b"))),
                           ((at("w" * 20, "b", far),), ()), ((at("x", "b", far),), (at("x", "b", (A, 11, 29)),)),
                           ((at("x", "y", (B, 3, 4)),), (at("x", "y", (B, 4, 3)),))):
            first, second = Errata(one), Errata(other)
            book = parting(first, second)
            self.assertIsInstance(book, Book)
            self.assertEqual(len(book), 1)
            self.assertNotEqual(said(first(book)), said(second(book)))
            self.assertEqual(parting(first, second), book)

    def test_tables_tell_all(self):
        random = Random(4)
        turns = [(old, new) for old, new in product("abc", "abc") if old != new]
        for _ in range(400):
            one, other = [Errata([at(*random.choice(turns)) for _ in range(random.randint(0, 4))]) for _ in range(2)]
            same = all(said(one(book)) == said(other(book)) for book in [Book((Leaf((1,), (token,), ()),)) for token in "abcd"])
            self.assertEqual(one.table() == other.table(), same)
            book = parting(one, other)
            self.assertEqual(book is None, same)
            if book is not None:
                self.assertNotEqual(said(one(book)), said(other(book)))


class NeededTest(unittest.TestCase):
    def test_needed(self):
        old = setting_book((0, "pen", ((0, 2, 2, "x"),)))
        new = setting_book((0, "pen", ((0, 0, 0, "9"), (1, 4, 1, "2/2a"))), (2, "pen", ((0, 0, 1, "1/1a"),)))
        errata = needed(old, new)
        self.assertEqual(errata.corrections, (((A, 0, 0, "1", "9")), (A, 2, 2, "x", "1p2/overleaf"), (page(1, "b"), 4, 1, "2/facing", "2/2a")))
        self.assertEqual(said(errata(old)), said(new))
        self.assertEqual(needed(old, old), Errata(()))

    def test_other_prints_are_not_looked_at(self):
        old = Book((leaf((1,), ("a",)), leaf((2,), ("a",)), leaf((3,), ("a b",))))
        new = Book((leaf((1,), ("b",)), leaf((3,), ("a b",), pen=((0, 0, 1, "c"),)), leaf((4,), ("a",))))
        self.assertEqual(needed(old, new).corrections, ((page(3), 0, 1, "b", "c"),))
        self.assertEqual(needed(Book(()), new).corrections, ())

    def test_too_many(self):
        rows = (" ".join("x" * 30),) * 3
        for count, fits in ((60, True), (61, False)):
            pen = [(0, k // 30, k % 30, "y") for k in range(count)]
            books = (Book((Leaf((1,), rows, ()),)), Book((Leaf((1,), rows, (), pen),)))
            if fits:
                self.assertEqual(len(needed(*books)), 60)
            else:
                self.assertRaises(TooMany, needed, *books)

    def test_errors_have_one_base(self):
        self.assertTrue(issubclass(BadErrata, AfterError))
        self.assertFalse(issubclass(TooMany, BadForm))


if __name__ == "__main__":
    unittest.main()
