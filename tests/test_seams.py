import unittest
from random import Random

from afterleaves.books import Book
from afterleaves.chimeras import chimeras
from afterleaves.errors import NoBook, TooMany
from afterleaves.leaves import Leaf
from afterleaves.reached import binders
from afterleaves.renewal import fresh_book
from afterleaves.rounds import Rounds
from afterleaves.seams import is_seamless, seams
from tests.archives import SMALL, archive_of, fat_archive, random_archive, random_lettered
from tests.randomtexts import random_texts
from tests.samples import page, setting_book

A, AB, B = page(1), page(1, "b"), page(2)
WORDS = ("row", "number", "pointer", "contents", "index")


def side(*rows, back=(), pen=()):
    return Book((Leaf((1,), rows, back, pen),))


def spots(word, *rows, back=()):
    """The rows of the seams of one kind in a book of one page, or of two."""
    told = seams(side(*rows, back=back))
    return [row + (len(rows) if at == AB else 0) for kind, at, row in told if kind == word]


class RowTest(unittest.TestCase):
    def check(self, rows, expected):
        with self.subTest(rows):
            self.assertEqual(spots("row", *rows), expected)
            # The same rows on two pages.
            for cut in range(1, len(rows)):
                self.assertEqual(spots("row", *rows[:cut], back=rows[cut:]), expected)

    def test_what_fits(self):
        for rows in (("1 x", "y z"), ("0p1 x .",), ("0p1 x", "y", "."), ("0f1", ":", ":"), ("0f1 x", "y", ":", ":", "0f2", ":"), ("0f1 x", "0f2 x"),
                     ("- 1/1a x", "y"), ("+ x", "1a"), ("0p1 x .", "1", "0p2 x", "y .", "0.1 x"), ("0p1 .", "- x", "+ x")):
            self.check(rows, [])

    def test_an_open_paragraph(self):
        for rows, expected in ((("0p1 x", "0p2 y ."), [1]), (("0p1 x", "1 y"), [1]), (("0p1 x", ":"), [1]), (("0p1 x", "- y"), [1]), (("0p1 x", "+ y"), [1]),
                               (("0p1 x", "y", "0f1", ":"), [2]), (("0p1 x", "y z ."), []), (("0p1 . x", "y ."), []), (("0p1 x .", "y ."), [1]),
                               (("0p1 x", ":", ":", "y"), [1, 3]), (("0p1 x", "0p2 y", "z ."), [1]), (("0p1 x", "0p2 y", "0p3 ."), [1, 2])):
            self.check(rows, expected)

    def test_a_binder_that_ends_in_a_paragraph(self):
        for rows, expected in ((("0p1 x",), [0]), (("0p1 x", "y"), [1]), (("0p1 .", "0p2 x", "y"), [2]), (("0p1 x", "0p2 y"), [1]), (("0p1 .x",), [0])):
            self.check(rows, expected)
        # Foot rows and pages without text rows are none.
        self.assertEqual(seams(Book((Leaf((1,), ("0p1 x",), ()), Leaf((2,), ("* y .",), ())))), (("row", A, 0),))

    def test_rows_that_go_on(self):
        for rows, expected in ((("x",), [0]), (("x", "y", "z ."), [0]), (("x .", "y"), [0]), (("0p1 .", "x", "y ."), [1]), (("0p1 x", ".", "y"), [2]),
                               (("0f1", ":", "x"), [2]), (("0f1", ":", "x", "y", ":"), [2, 4]), (("x", ":"), [0, 1]), (("x", ":", ":"), [0, 1]),
                               (("1 x", "y .", "z"), []), (("- 1/1a x .", "y"), []), (("0f1 x .", "y", ":"), [])):
            self.check(rows, expected)

    def test_drawn_rows(self):
        for rows, expected in (((":",), [0]), ((":", ":"), [0]), (("1 x", ":"), [1]), (("0p1 .", ":"), [1]), (("- x", ":"), [1]), (("+ x", ":", ":"), [1]),
                               (("0f1 x", "1 y", ":"), [2]), (("1 x", ":", ":", "0f1", ":"), [1]), ((": x", ":"), [0])):
            self.check(rows, expected)

    def test_strokes(self):
        self.assertEqual(seams(side("0p1 x", "y", pen=((0, 1, 0, "."),))), ())
        self.assertEqual(seams(side("0p1 x .", pen=((0, 0, 2, "y"),))), (("row", A, 0),))
        self.assertEqual(seams(side("0p1 x", "y .", pen=((0, 1, 0, "0p2"),))), (("row", A, 1),))


class NumberTest(unittest.TestCase):
    def check(self, numbers, expected):
        with self.subTest(numbers):
            rows = [number + (" ." if "p" in number else "") for number in numbers.split(" ")]
            self.assertEqual(spots("number", *rows[:12], back=rows[12:]), expected)

    def test_counting(self):
        for numbers, expected in (("1 2 3", []), ("2", [0]), ("1 3", [1]), ("0", [0]), ("1 1", [1]), ("2 3", [0]), ("3 1 2", [0, 1]),
                                  ("0.1 0.2 0p1 0p2 0f1 0f2", []), ("0.2", [0]), ("0p0", [0]), ("0p0 0p1", [0]), ("0p2 0p3", [0]), ("0p1 0p3 0p4", [1]),
                                  ("0p1 0p1 0p2", [1]), ("1 1p1 1f1 1.1 1p2 1.2 1f2", []), ("1 1p1 2 2p1", []), ("1 1p1 2 2p2", [3]), ("1 0p1", [1]),
                                  ("1p1", [0]), ("1 1p1 2 1p2", [3])):
            self.check(numbers, expected)

    def test_how_it_goes_on(self):
        for numbers, expected in (("1p1 1p2 1f1 2", [0]), ("1p1 0p1", [0, 1]), ("1p1 2", [0]), ("3p4 3p5 3.1 4 4p1", [0]), ("1 1p1 1f1 2p2 2f1 2f2 2p3", [3]),
                                  ("1 1p1 1f1 2p2 1f2", [3, 4]), ("1 1p5 1f1 1p6", [1]), ("1 1p1 1 1p1", [2]), ("1 1p1 1 1p2", [2, 3]),
                                  ("1 1p1 5 5p1 6", [2]), ("1 1p1 1f1 2p1 1p1", [3, 4]), ("0 0p1 1", [0])):
            self.check(numbers, expected)

    def test_what_a_number_is(self):
        for number in ("9999", "9999.1", "9999p9999", "1f9999", "10p10"):
            rows = (number + " .",)
            self.assertEqual(spots("number", *rows), [0], number)
        for word in ("01", "1p01", "01p1", "10000", "1p10000", "10000.1", "1.1.1", "1p", "p1", "1.", ".1", "1q1", "1p1p1", "1.1p1", "1pp1", "-1", "+1", "1P1", "a", "1a"):
            self.assertEqual(spots("number", word + " ."), [], word)
            self.assertEqual(spots("row", word + " ."), [0], word)

    def test_rows_that_do_not_fit_count_too(self):
        self.assertEqual(seams(side("0p1 x", "0p2 .", "0p3 .")), (("row", A, 1),))
        self.assertEqual(spots("number", "0p1 x", "0p3 .", "0p4 ."), [1])
        self.assertEqual(spots("number", "0p1 0p7 .", "x 0p9", "0p2 ."), [])


class PointerTest(unittest.TestCase):
    def test_lost_pointers(self):
        for rows, expected in ((("1 x 1/here",), []), (("1 x 2/here",), [0]), (("1 x 1/2a",), [0]), (("1 x 1/facing",), [0]), (("1 x 1/there",), [0]),
                               (("1 x", "1/1a", "a/b"), [2]), (("0p1 1/here 2/here .",), [0]),
                               (("+ 1/here",), [0]), (("- 1/1a",), [0]), (("1 x", "a/b c/d", "y"), [1])):
            self.assertEqual(spots("pointer", *rows), expected)

    def test_pages_that_are_not_there(self):
        for rows, expected in ((("0p1 1a 1a-1b .",), []), (("0p1 2a .",), [0]), (("0p1 1a-2a .",), [0]), (("0p1 2a-1a .",), [0]), (("0p1 1b-1a .",), []),
                               (("1 1.1a",), [0]), (("0f1 x", "3b"), [1]), (("- 1/1a 7a",), [0]), (("7a x",), [0]), (("0p1 7c 07a 7a- 7 a 7a-b .",), []),
                               (("0p1 2a 3a .",), [0]), ((": 2a",), [0])):
            self.assertEqual(spots("pointer", *rows), expected)

    def test_entries_of_an_index_tell_pages_for_themselves(self):
        self.assertEqual(spots("pointer", "+ x 7a", "8a-9b"), [])
        self.assertEqual(spots("pointer", "+ x 7a", "1 y", "8a-9b"), [2])
        # Behind a row that belongs to none, no row belongs to the entry.
        self.assertEqual(spots("pointer", "+ x 7a", ":", "8a", "9a"), [2, 3])
        self.assertEqual(spots("pointer", "0p1 x", "+ y 7a", "8a"), [])
        self.assertEqual(spots("pointer", "+ x 7a a/b"), [0])

    def test_foot_rows(self):
        self.assertEqual(spots("pointer", "0p1 .", "* 7a a/b"), [])

    def test_strokes(self):
        self.assertEqual(seams(side("1 x 1/here", pen=((0, 0, 2, "1/9a"),))), (("pointer", A, 0),))
        self.assertEqual(seams(side("1 x 9a", pen=((0, 0, 2, "1b"),))), ())


class ContentsTest(unittest.TestCase):
    def test_entries_and_heads(self):
        heads = ("1 x y", "1.1 z", "goes on")
        for entries, expected in ((("- 1/1a x y", "- 1.1/1a z goes on"), []), (("- 1/1a", "x y", "- 1.1/here z", "goes", "on"), []),
                                  (("- 1/1a x", "- 1.1/1a z goes on"), [0]), (("- 1/1a x y z", "- 1.1/1a z goes on"), [0]), (("- 1/1a x y", "- 1.1/1a z"), [1]),
                                  (("- 1.1/1a x y", "- 1/1a z goes on"), [0, 1]), (("- 1.1/1a z goes on", "- 1/1a x y"), [0, 1]), (("- 1/1a x y",), [0]),
                                  (("- 1/1a x y", "- 1.1/1a z goes on", "- 1.1/1a z goes on"), [2]), (("-", "- 1.1/1a z goes on"), [0]),
                                  (("- x y", "- 1.1/1a z goes on"), [0]), (("- 1 x y", "- 1.1/1a z goes on"), [0]), (("- /1 x y", "- 1.1/1a z goes on"), [0]),
                                  (("- 1/1a/ x y", "- 1.1/1a z goes on"), [0]), (("- 1.1/1a z goes on",), [0])):
            with self.subTest(entries):
                # The rows of the first page come first.
                told = [row for kind, at, row in seams(side(*heads, back=entries)) if kind == "contents"]
                first = [k for k, entry in enumerate(entries) if entry[0] == "-"]
                self.assertEqual(told, [first[k] for k in expected])

    def test_no_heads_and_no_entries(self):
        self.assertEqual(spots("contents", "- 1/1a x"), [0])
        self.assertEqual(spots("contents", "0p1 .", "- 1/1a x", "- 2/1a y"), [1, 2])
        self.assertEqual(spots("contents", "1 x", "2 y"), [])

    def test_fewer_entries_than_heads(self):
        self.assertEqual(spots("contents", "1 x", "2 y", "3 z", "- 1/1a x", "- 2/1a y"), [4])
        self.assertEqual(spots("contents", "1 x", "2 y", "3 z", "- 1/1a x", "- 2/1a q"), [4])
        self.assertEqual(spots("contents", "1 x", "2 y", "3 z", "- 1/1a q", "- 2/1a y"), [3, 4])

    def test_what_belongs_to_none(self):
        # A row behind a closed paragraph or a drawn row is no further row of a head or an entry.
        self.assertEqual(spots("contents", "1 x", "0p1 .", "y", "- 1/1a x"), [])
        self.assertEqual(spots("contents", "1 x", "- 1/1a x", ":", "y"), [])
        self.assertEqual(spots("contents", "1 x", "- 1/1a", ":", "x"), [1])
        self.assertEqual(spots("contents", "1", ":", "x", "- 1/1a"), [])

    def test_heads_behind_the_entries(self):
        self.assertEqual(spots("contents", "- 1/1a x", "1 x"), [])

    def test_heads_and_entries_that_do_not_fit(self):
        self.assertEqual(spots("contents", "0p1 x", "1 x", "0p1 y", "- 1/1a x"), [])

    def test_strokes(self):
        self.assertEqual(seams(side("1 x", "- 1/1a y", pen=((0, 1, 2, "x"),))), ())
        self.assertEqual(seams(side("1 x", "- 1/1a x", pen=((0, 0, 1, "y"),))), (("contents", A, 1),))


class IndexTest(unittest.TestCase):
    def test_ranges(self):
        for entry, true in (("+ x 1a", True), ("+ x 1a-1a", True), ("+ x 1a-1b", False), ("+ x", False), ("+ y", True), ("+ y 1a", False), ("+ x 1a 1a", True),
                            ("+ x 1a z", False), ("+ x 2a", False), ("+ x 1b-1a", False), ("+", False), ("+ 1a", False), ("+ abcdefghi", False), ("+ abcdefgh", True),
                            ("+ X", False), ("+ x. 1a", False), ("+ x 1a x", False), ("+ . 1a", False)):
            with self.subTest(entry):
                self.assertEqual(spots("index", "0p1 x .", back=(entry,)), [] if true else [1])

    def test_rows_that_go_on(self):
        self.assertEqual(spots("index", "0p1 x .", "+ x", "1a"), [])
        self.assertEqual(spots("index", "0p1 x .", "+", "x 1a"), [])
        self.assertEqual(spots("index", "0p1 x .", "+ x 1a", ":", "2a"), [])
        self.assertEqual(spots("index", "0p1 x .", "+ x", ":", "1a"), [1])

    def test_where_a_term_stands(self):
        # Not in rows of entries, and in foot rows neither; in drawn rows and in rows that belong to none it does.
        self.assertEqual(spots("index", "1 y", "- 1/1a y x", "+ x", "+ y 1a", "+ z"), [])
        self.assertEqual(spots("index", "1 y", "* x", back=("+ x",)), [])
        self.assertEqual(spots("index", "0f1", ": x", "y", "+ x 1a", "+ y 1a"), [])
        self.assertEqual(spots("index", "0p1 .", "x", "+ x 1a"), [])
        self.assertEqual(spots("index", "- 1/1a z", ":", "x", "+ x 1a"), [])
        self.assertEqual(spots("index", "- 1/1a z", "x", "+ x 1a"), [2])
        self.assertEqual(spots("index", "0p1 xx .", "+ x 1a"), [1])

    def test_pages_without_rows(self):
        leaves = (Leaf((1,), ("0p1 x .",), ()), Leaf((2,), ("0p2 x .",), ("0p3 y .",)), Leaf((3,), ("+ x 1a-2a", "+ y 2b"), ()))
        self.assertEqual(seams(Book(leaves)), ())
        self.assertEqual(seams(Book((*leaves[:2], Leaf((3,), ("+ x 1b-2a", "+ y 2b"), ())))), (("index", page(3), 0),))
        self.assertEqual(seams(Book((leaves[0], leaves[2]))), (("index", page(3), 0), ("index", page(3), 1)))

    def test_strokes(self):
        self.assertEqual(seams(side("0p1 x .", "+ x 1b", pen=((0, 1, 2, "1a"),))), ())
        self.assertEqual(seams(side("0p1 x .", "+ y 1a", pen=((0, 0, 1, "y"),))), ())


class SeamsTest(unittest.TestCase):
    def test_order(self):
        binder = Book((Leaf((1,), ("x", "2p2 a/b c/d 9a", "2p2 .", "+ q 1b"), ("- 1/1a", "3 x")), Leaf((2,), ("y .", "+ x", "0p1 z"), ())))
        self.assertEqual(seams(binder), (("row", A, 0), ("row", A, 2), ("row", B, 2), ("number", A, 1), ("number", A, 2), ("number", B, 2), ("pointer", A, 1),
                                         ("pointer", AB, 0), ("contents", AB, 0), ("index", A, 3), ("index", B, 1)))
        self.assertFalse(is_seamless(binder))
        self.assertEqual(seams(binder), seams(binder))

    def test_several_at_one_row(self):
        self.assertEqual(seams(side("0p1 x", "+ q/r 1b")), (("row", A, 1), ("pointer", A, 1), ("index", A, 1)))
        self.assertEqual(seams(side("0p2 a/b c/d",)), (("row", A, 0), ("number", A, 0), ("pointer", A, 0)))
        self.assertEqual(seams(side("0p1 x", "0p2 y")), (("row", A, 1),))

    def test_no_leaves(self):
        self.assertEqual(seams(Book(())), ())
        self.assertTrue(is_seamless(Book(())))
        self.assertEqual(seams(Book((Leaf((1,), ("* x",), ()),))), ())

    def test_one_seam_is_enough(self):
        for rows, word in ((("x",), "row"), (("2",), "number"), (("1 9a",), "pointer"), (("- 1/1a",), "contents"), (("+ x 1a",), "index")):
            self.assertIn(word, [seam[0] for seam in seams(side(*rows))])
            self.assertFalse(is_seamless(side(*rows)))

    def test_the_setting(self):
        self.assertEqual(seams(setting_book()), ())
        self.assertEqual(seams(setting_book((0, "pen", ((0, 2, 2, "1p2/1b"),)))), ())
        self.assertEqual(seams(Book(setting_book().leaves[1:])), (("number", B, 0), ("pointer", B, 1), ("pointer", page(3), 0), ("contents", page(3), 0),
                                                                ("contents", page(3), 1), ("index", page(4), 0), ("index", page(4), 1)))
        self.assertEqual(seams(Book(setting_book().leaves[:1])), (("pointer", AB, 4),))

    def test_lawful_books(self):
        done = 0
        for text in random_texts(111, 150, (2, 4, 7, 9), (0, 1, 2, 4)):
            for form in SMALL:
                books = []
                for make in (lambda: fresh_book(text, form), lambda: Rounds(text, form).books[-1] if Rounds(text, form).rests else None):
                    try:
                        books.append(make())
                    except (NoBook, TooMany):
                        continue
                for book in books:
                    if book is not None:
                        self.assertEqual(seams(book), ())
                        self.assertTrue(is_seamless(book))
                        done = done + 1
        self.assertGreater(done, 300)

    def test_seams_of_parts(self):
        random = Random(112)
        told = {}
        for _ in range(80):
            archive = random_archive(random)
            for book in archive.books:
                binder = Book([each for each in book if random.random() < 0.6])
                found = seams(binder)
                self.assertEqual(is_seamless(binder), found == ())
                self.assertEqual(list(found), sorted(set(found), key=lambda seam: (WORDS.index(seam[0]), seam[1:])))
                for word, at, row in found:
                    told[word] = True
                    self.assertLess(row, len(binder.text_rows(at)))
        self.assertEqual(sorted(told), sorted(WORDS))


class ChimeraTest(unittest.TestCase):
    def test_letters(self):
        archive = archive_of(((1, "a", ""), (2, "b", "")), ((1, "x", ""), (2, "b", "")), ((1, "x", ""), (2, "y", "")), ((1, "z", ""), (2, "z", "")))
        self.assertEqual(chimeras(archive), ((archive.binder((2,)), (2,)),))
        self.assertEqual([row for binder, row in chimeras(archive, steady=False)], [(2,), (3, 1), (3, 2)])

    def test_what_is_none(self):
        # The binder that missed the first sending has two second paragraphs, one that missed the second one has none.
        archive = archive_of(((1, "ab", ""), (2, "c", "")), ((1, "a", ""), (2, "bc", "")), ((1, "x", ""), (2, "bc", "")))
        self.assertEqual(chimeras(archive), ())
        gaps = archive_of(((1, "ab", ""), (2, "c", ""), (3, "d", "")), ((1, "a", ""), (2, "bc", ""), (3, "d", "")), ((1, "a", ""), (2, "bc", ""), (3, "e", "")))
        self.assertEqual([(row, is_seamless(binder)) for binder, row in binders(gaps)], [((), True), ((1,), True), ((2,), True), ((1, 2), True)])
        self.assertEqual([row for binder, row in chimeras(gaps)], [(2,)])
        self.assertEqual(chimeras(archive_of(((1, "a", ""),))), ())
        self.assertEqual(chimeras(archive_of(*[((1, "a", ""),)] * 5), steady=False), ())

    def test_told_by_what_they_are(self):
        random = Random(113)
        done = 0
        for _ in range(60):
            archive = random_lettered(random) if random.random() < 0.5 else random_archive(random)
            for steady in (True, False):
                expected = [(binder, row) for binder, row in binders(archive, steady=steady) if seams(binder) == () and binder not in archive.books]
                self.assertEqual(chimeras(archive, steady=steady), tuple(expected))
                done = done + len(expected)
        self.assertGreater(done, 20)

    def test_too_many_leaves(self):
        self.assertRaises(TooMany, chimeras, fat_archive((8, 1), (1, 1), (1, (8, 8, 8, 2))))


if __name__ == "__main__":
    unittest.main()
