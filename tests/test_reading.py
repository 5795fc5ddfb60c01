import unittest

from afterleaves.books import Book
from afterleaves.errors import AfterError, BadForm, NotThere, Unknown, Unlawful
from afterleaves.formats import Format
from afterleaves.leaves import Leaf
from afterleaves.reading import Reading
from afterleaves.textread import read_text
from afterleaves.texts import Text
from tests.samples import fig, head, page, para, setting, setting_book

FORM = Format(20, 6)
TEXT = setting()
BOOK = setting_book()


def reads(text, rows, form=FORM):
    """The fault with which a book of one leaf with these rows reads, or None."""
    try:
        Reading(text, form, Book((Leaf((1,), rows, ()),)))
    except Unlawful as why:
        return why.fault
    return None


class ReadingTest(unittest.TestCase):
    def test_places(self):
        reading = Reading(TEXT, FORM, BOOK)
        self.assertEqual(reading.places, (page(1), page(1), page(1, "b"), page(1, "b"), page(2), page(2), page(3), page(4)))
        self.assertEqual(reading.starts, ((page(1), 0), (page(1), 1), (page(1, "b"), 0), (page(1, "b"), 3), (page(2), 0),
                                          (page(2), 1), (page(3), 0), (page(4), 0)))

    def test_own(self):
        reading = Reading(TEXT, FORM, BOOK)
        for k, item, place in ((1, 5, (page(1), 2, 2)), (3, 4, (page(1, "b"), 4, 1)), (5, 2, (page(2), 1, 3)),
                               (6, 0, (page(3), 0, 1)), (6, 1, (page(3), 1, 1))):
            self.assertEqual(reading.own(k, item), place)

    def test_own_is_not_there(self):
        reading = Reading(TEXT, FORM, BOOK)
        for k, item in ((1, 4), (1, 6), (0, 0), (2, 0), (6, 2), (6, -1), (7, 0), (-1, 5), (8, 0), (1, -1), (5, 9)):
            with self.subTest((k, item)), self.assertRaises(Unknown) as caught:
                reading.own(k, item)
            self.assertEqual(caught.exception.name, item)
            self.assertIsInstance(caught.exception, NotThere)
            self.assertNotIsInstance(caught.exception, BadForm)

    def test_entry(self):
        reading = Reading(TEXT, FORM, BOOK)
        self.assertEqual(reading.entry(6, 0), ("-", "1/1a", "what", "is", "paid"))
        self.assertEqual(reading.entry(6, 1), ("-", "2/2a", "last", "things"))
        self.assertEqual(reading.entry(7, 1), ("+", "pays", "1a-1b"))
        for k, item in ((6, 2), (7, 2), (7, -1), (6, -1), (1, 0), (0, 0), (-1, 0), (-2, 0), (8, 0), (9, 1)):
            with self.subTest((k, item)), self.assertRaises(Unknown) as caught:
                reading.entry(k, item)
            self.assertEqual(caught.exception.name, item)

    def test_entry_and_terms_are_as_printed(self):
        book = setting_book((0, "pen", ((0, 1, 1, "desk"),)), (2, "pen", ((0, 0, 1, "x"), (0, 0, 2, "y"))))
        reading = Reading(TEXT, FORM, book)
        self.assertEqual(reading.entry(6, 0), ("-", "1/1a", "what", "is", "paid"))
        self.assertEqual(reading.term_pages("each"), (page(1),))
        self.assertEqual(reading.term_pages("desk"), (page(1, "b"), page(2)))

    def test_term_pages(self):
        reading = Reading(TEXT, FORM, BOOK)
        for word, pages in (("desk", (page(1, "b"), page(2))), ("pays", (page(1), page(1, "b"))), ("paid", (page(1),)),
                            ("things", (page(2),)), ("since", ()), ("may", ()), ("words", ()), ("nowhere", ()), ("tol", ()),
                            ("sees", (page(1, "b"),))):
            self.assertEqual(reading.term_pages(word), pages, word)

    def test_contents_without_heads(self):
        text = Text((para("a", "x"), ("contents", "c"), ("index", "i", ("x",))))
        book = Book((Leaf((1,), ("0p1 x .",), ()), Leaf((2,), ("+ x 1a",), ())))
        reading = Reading(text, FORM, book)
        self.assertEqual(reading.places, (page(1), None, page(2)))
        self.assertEqual(reading.starts, ((page(1), 0), None, (page(2), 0)))
        self.assertRaises(Unknown, reading.own, 1, 0)
        self.assertRaises(Unknown, reading.entry, 1, 0)

    def test_a_text_without_rows(self):
        text = Text((("contents", "c"),))
        reading = Reading(text, FORM, Book(()))
        self.assertEqual((reading.places, reading.starts), ((None,), (None,)))
        with self.assertRaises(Unlawful) as caught:
            Reading(text, FORM, BOOK)
        self.assertEqual((caught.exception.edition, caught.exception.fault), (0, ("more",)))

    def test_the_error(self):
        with self.assertRaises(Unlawful) as caught:
            Reading(TEXT, FORM, Book(()))
        self.assertEqual((caught.exception.edition, caught.exception.fault), (0, ("block", 0)))
        self.assertEqual(type(caught.exception).__mro__[1], AfterError)

    def test_rows_that_foot_rows_cut_off(self):
        book = setting_book((0, "front", ("1 what is paid", "* a", "1p1 each pays as", "told in 1p2/overleaf", "(*) .")))
        with self.assertRaises(Unlawful) as caught:
            Reading(TEXT, FORM, book)
        self.assertEqual(caught.exception.fault, ("block", 1))

    def test_a_paragraph_over_two_leaves(self):
        text = Text((para("a", *(("xxxxxxxx", "yyyyyyyy") * 4), ("see", "a")),))
        book = Book((Leaf((3,), ("0p1 xxxxxxxx", "yyyyyyyy xxxxxxxx"), ("yyyyyyyy xxxxxxxx", "yyyyyyyy xxxxxxxx")),
                     Leaf((3, 1), ("yyyyyyyy 0p1/3a .",), ())))
        reading = Reading(text, FORM, book)
        self.assertEqual(reading.own(0, 8), (((3, 1), 0), 0, 1))
        self.assertEqual(reading.places, (page(3),))
        self.assertEqual(reading.term_pages("yyyyyyyy"), (page(3), page(3, "b"), ((3, 1), 0)))

    def test_objects_stay(self):
        reading = Reading(TEXT, FORM, BOOK)
        before = (reading.places, reading.starts, reading.own(1, 5), reading.entry(6, 1))
        Reading(read_text(("para a x",)), FORM, Book((Leaf((9,), ("0p1 x .",), ()),)))
        again = Reading(TEXT, FORM, BOOK)
        self.assertEqual((reading.places, reading.starts, reading.own(1, 5), reading.entry(6, 1)), before)
        self.assertEqual((again.places, again.starts, again.own(1, 5), again.entry(6, 1)), before)


class FormsTest(unittest.TestCase):
    def test_heads_and_figures(self):
        text = Text((head("a", 1, ("one", "two")), fig("b", 2, ("the", "plan"))))
        good = ("1 one two", "1f1 the plan", ":", ":")
        self.assertIsNone(reads(text, good))
        for k, rows in ((0, ("2 one two", *good[1:])), (0, ("1 one", "two", *good[1:])), (0, ("1 one two.", *good[1:])),
                        (1, ("1 one two", "1f2 the plan", ":", ":")), (1, good[:3]), (1, good[:1]),
                        (1, ("1 one two", "1f1 the plan", ":", "::"))):
            self.assertEqual(reads(text, rows), ("block", k), rows)
        self.assertEqual(reads(text, (*good, ":")), ("more",))

    def test_pointer_tokens(self):
        text = Text((para("a", ("see", "a")),))
        for token in ("0p1/here", "0p1/1a", "x/y", "9/overleaf", "a/b.c", "1-2/3", "+/-"):
            self.assertIsNone(reads(text, (f"0p1 {token} .",)), token)
        for token in ("here", "/", "/1a", "0p1/", "0p1//1a", "0p1/1a/b", "1a", ".", "0p1"):
            self.assertEqual(reads(text, (f"0p1 {token} .",)), ("block", 0), token)

    def test_spans(self):
        text = Text((para("a", ("span", "a", "a")),))
        for token in ("1a", "1a-1b", "9.9.9b-1a", "2a-2a"):
            self.assertIsNone(reads(text, (f"0p1 {token} .",)), token)
        for token in ("1a-", "-1a", "1a-1b-2a", "1", "1a/1b", "01a", "0a", "here", "1a-b"):
            self.assertEqual(reads(text, (f"0p1 {token} .",)), ("block", 0), token)

    def test_paragraphs(self):
        text = Text((para("a", "x", ("note", ("n",)), "y"),))
        self.assertIsNone(reads(text, ("0p1 x (*) y .", "* n")))
        self.assertIsNone(reads(text, ("0p1 x (*) y .",)))
        for rows in (("0p2 x (*) y .",), ("0p1 x y .",), ("0p1 x (*) y",), ("0p1 x (*) y . .",), ("0p1 x (*) z .",),
                     ("0p1 x", "(*) y ."), ("0p1 x (*) y", "."), ("0p1 x * y .",), ("0p1 x (*) y", ". 0p2")):
            self.assertEqual(reads(text, rows), ("block", 0), rows)

    def test_more_tokens_than_are_due(self):
        text = Text((para("a", "x"), para("b", "y")))
        self.assertEqual(reads(text, ("0p1 x . 0p2 y .",)), ("block", 0))
        self.assertEqual(reads(text, ("0p1 x .", "0p2 y . 0p3")), ("block", 1))

    def test_a_token_that_is_wider_than_the_format(self):
        text = Text((para("a", ("see", "a")),))
        wide = "m" * 6 + "/mmmm"
        self.assertEqual(reads(text, ("0p1", wide, ".")), ("block", 0))
        self.assertIsNone(reads(text, (f"0p1 {wide} .",), Format(60, 6)))

    def test_contents(self):
        text = Text((head("a", 1, ("one", "two")), para("b", "x"), head("c", 2), para("d", "x"), ("contents", "l")))
        body = ("1 one two", "1p1 x .", "1.1 x", "1p2 x .")
        for rows in (("- 1/1a one two", "- 1.1/1a x"), ("- a/b one two", "- 1.1/9b x"), ("- 1/overleaf", "one two .", "- x/y x")):
            good = len(rows) == 2
            self.assertEqual(reads(text, (*body, *rows), Format(20, 12)), None if good else ("block", 4), rows)
        for rows in ((), ("- 1/1a one two",), ("- 1/1a one two", "- 1.1/1a y"), ("+ 1/1a one two", "- 1.1/1a x"),
                     ("- 1/1a one two", "- 1a x"), ("- 1/1a one", "two", "- 1.1/1a x"), ("- 1/1a one two - 1.1/1a x",),
                     ("- 1/1a one two x", "- 1.1/1a x"), ("- 1// one two", "- 1.1/1a x")):
            self.assertEqual(reads(text, (*body, *rows), Format(20, 12)), ("block", 4), rows)
        self.assertEqual(reads(text, (*body, "- 1/1a one two", "- 1.1/1a x", "- 2/1a x"), Format(20, 12)), ("more",))

    def test_index(self):
        text = Text((para("a", "x", "y"), ("index", "i", ("x", "y"))))
        body = ("0p1 x y .",)
        for rows in (("+ x 1a", "+ y 1a"), ("+ x", "+ y"), ("+ x 9a-1b 3a", "+ y"), ("+ x", "+ y 10a-10b 11a-11b", "12a")):
            self.assertIsNone(reads(text, (*body, *rows)), rows)
        for rows in ((), ("+ x 1a",), ("+ y 1a", "+ x 1a"), ("+ x 1a + y 1a",), ("+ x 1", "+ y 1a"), ("- x 1a", "+ y 1a"),
                     ("+ x", "1a", "+ y"), ("+ x 1a", "+ y", "1a"), ("+ x 1a", "+ y 1a z"), ("+ x 1a-2a-3a", "+ y")):
            self.assertEqual(reads(text, (*body, *rows)), ("block", 1), rows)
        self.assertEqual(reads(text, (*body, "+ x 1a", "+ y 1a", "+ z 1a")), ("more",))


if __name__ == "__main__":
    unittest.main()
