import unittest

from afterleaves.books import Book
from afterleaves.errors import Unknown
from afterleaves.formats import Format
from afterleaves.leaves import Leaf
from afterleaves.looker import Looker, Verdict, is_plain, place_word_true, preferred_place, preferred_token, said_token
from afterleaves.reading import Reading
from afterleaves.texts import Text
from tests.samples import aslists, fig, head, leaf, page, para, setting, setting_book

FORM = Format(20, 6)
FAR = Format(20, 6, False)
TEXT = setting()
LOOK = Looker(FORM)


def fault(*changes):
    return LOOK(TEXT, setting_book(*changes)).fault


class PlaceWordTest(unittest.TestCase):
    BOOK = Book((leaf((1,)), leaf((2,), back=()), leaf((2, 1)), leaf((9,))))

    def test_true(self):
        one, two, over = page(2), ((2, 1), 0), page(2, "b")
        for own, goal, word, true in (
                (one, one, "here", True), (one, over, "here", False), (one, over, "overleaf", True), (over, one, "overleaf", True),
                (one, one, "overleaf", False), (over, two, "facing", True), (two, over, "facing", True), (one, two, "facing", False),
                (one, over, "facing", False), (page(1, "b"), one, "facing", True), (page(1), page(9, "b"), "facing", False),
                (one, two, "2.1a", True), (one, one, "2a", True), (over, one, "2a", True), (over, two, "2.1a", True),
                (one, two, "2.1b", False), (one, two, "2a", False), (one, two, "elsewhere", False), (one, two, "", False),
                (two, page(9), "facing", False), (((2, 1), 1), page(9), "facing", True), (one, one, "Here", False)):
            with self.subTest((own, goal, word)):
                self.assertIs(place_word_true(self.BOOK, own, goal, word, True), true)
                near = word in ("here", "overleaf", "facing")
                self.assertIs(place_word_true(self.BOOK, own, goal, word, False), true and not near)
                self.assertIs(place_word_true(self.BOOK, aslists(own), aslists(goal), word, True), true)

    def test_preferred(self):
        for own, goal, near, far in ((page(1), page(1), "here", "1a"), (page(1), page(1, "b"), "overleaf", "1b"),
                                     (page(1, "b"), page(2), "facing", "2a"), (((2, 1), 0), page(2, "b"), "facing", "2b"),
                                     (page(1), page(2), "2a", "2a"), (page(9, "b"), ((2, 1), 1), "2.1b", "2.1b")):
            self.assertEqual(preferred_place(self.BOOK, own, goal, True), near)
            self.assertEqual(preferred_place(self.BOOK, own, goal, False), far)
            self.assertEqual(preferred_place(self.BOOK, aslists(own), aslists(goal), True), near)


class TokensTest(unittest.TestCase):
    def test_tokens(self):
        book = setting_book((0, "pen", ((0, 2, 2, "1p2/1b"), (1, 4, 1, "what/ever"))), (2, "pen", ((0, 1, 1, "x"),)))
        reading = Reading(TEXT, FORM, book)
        for k, item, preferred, said in ((1, 5, "1p2/overleaf", "1p2/1b"), (3, 4, "2/facing", "what/ever"), (5, 2, "1a-1b", "1a-1b"),
                                         (6, 0, "1/1a", "1/1a"), (6, 1, "2/2a", "x")):
            self.assertEqual(preferred_token(reading, k, item), preferred)
            self.assertEqual(said_token(reading, k, item), said)
            self.assertEqual(preferred_token(reading, k, item), preferred)
        for k, item in ((1, 4), (0, 0), (6, 2), (7, 0), (-1, 5), (9, 9), (6, -1)):
            for ask in (preferred_token, said_token):
                with self.assertRaises(Unknown) as caught:
                    ask(reading, k, item)
                self.assertEqual(caught.exception.name, item)

    def test_near_false(self):
        text = Text((para("a", ("see", "a")),))
        book = Book((Leaf((3,), ("0p1 0p1/3a .",), ()),))
        self.assertEqual(preferred_token(Reading(text, FORM, book), 0, 0), "0p1/here")
        self.assertEqual(preferred_token(Reading(text, FAR, book), 0, 0), "0p1/3a")

    def test_spans(self):
        text = Text((para("a", ("span", "a", "a"), ("span", "a", "b")), para("b", "x")))
        book = Book((Leaf((3,), ("0p1 3a 3a-3b .",), ("0p2 x .",)),))
        reading = Reading(text, FORM, book)
        self.assertEqual([preferred_token(reading, 0, item) for item in (0, 1)], ["3a", "3a-3b"])
        self.assertTrue(is_plain(text, FORM, book))


class VerdictTest(unittest.TestCase):
    def test_verdicts(self):
        self.assertIs(bool(Verdict(None)), True)
        self.assertIs(bool(Verdict(("more",))), False)
        self.assertEqual(Verdict(("more",)).fault, ("more",))
        self.assertIsNone(Verdict(None).fault)

    def test_lawful(self):
        verdict = LOOK(TEXT, setting_book())
        self.assertIsInstance(verdict, Verdict)
        self.assertIs(bool(verdict), True)
        self.assertIsNone(verdict.fault)
        other = LOOK(TEXT, Book(()))
        self.assertEqual(other.fault, ("block", 0))
        self.assertIsNone(verdict.fault)
        self.assertIsNone(LOOK(TEXT, setting_book()).fault)

    def test_a_text_without_rows(self):
        self.assertTrue(LOOK(Text((("contents", "c"),)), Book(())))

    def test_block_and_more(self):
        self.assertEqual(fault((0, "back", ("1f1 the desk", ":", ":", "1p2 who pays late"))), ("block", 3))
        self.assertEqual(fault((2, "front", ("- 1/1a what is paid",))), ("block", 6))
        self.assertEqual(fault((3, "back", ("+ x",))), ("more",))
        self.assertEqual(fault((3, "front", ("+ desk 1b-2a",))), ("block", 7))

    def test_rows_of_another_format(self):
        self.assertEqual(Looker(Format(21, 6))(TEXT, setting_book()).fault, ("block", 1))

    def test_height(self):
        for height, page_told in ((5, None), (4, page(1)), (3, page(1))):
            told = Looker(Format(20, height))(TEXT, setting_book()).fault
            self.assertEqual(told, None if page_told is None else ("height", page_told))
        self.assertEqual(Looker(Format(20, 2))(Text((para("a", "x"), fig("b", 2))), Book((
            Leaf((1,), ("0p1 x .",), ("0f1", ":", ":")),))).fault, ("height", page(1, "b")))

    def test_foot(self):
        front = ("1 what is paid", "1p1 each pays as", "told in 1p2/overleaf", "(*) .")
        for feet in ((), ("* since",), ("* since may", "* since may"), ("* since may", "x"), ("* may since",)):
            self.assertEqual(fault((0, "front", (*front, *feet))), ("foot", page(1)))
        self.assertEqual(fault((1, "back", ("* since may",))), ("foot", page(2, "b")))
        self.assertEqual(fault((3, "front", ("+ desk 1b-2a", "+ pays 1a-1b", "* x"))), ("foot", page(4)))

    def test_foot_rows_of_several_notes(self):
        text = Text((para("a", ("note", ("b",)), ("note", ("aaaaaaaa", "bbbbbbbb", "c"))),))
        good = ("0p1 (*) (*) .", "* b", "* aaaaaaaa bbbbbbbb", "c")
        self.assertTrue(LOOK(text, Book((Leaf((1,), good, ()),))))
        for rows in ((good[0], *good[2:], good[1]), good[:3], (*good[:2], "* aaaaaaaa", "bbbbbbbb c")):
            self.assertEqual(LOOK(text, Book((Leaf((1,), rows, ()),))).fault, ("foot", page(1)))

    def test_break(self):
        text = Text((head("a", 2), para("b", *(("xxxxxxxx",) * 7)), fig("c", 1), head("d", 2)))
        rows = ("0.1 x", "0p1 xxxxxxxx", "xxxxxxxx xxxxxxxx", "xxxxxxxx xxxxxxxx", "xxxxxxxx xxxxxxxx .", "0f1", ":", "0.2 x")
        good = (3, 5, 7, 8)
        for cut in range(1, 8):
            leaf_rows = (rows[:cut], rows[cut:])
            told = Looker(Format(20, 12))(text, Book((Leaf((1,), *leaf_rows),))).fault
            self.assertEqual(told, None if cut in good else ("break", page(1)), cut)
        split = Book((Leaf((1,), rows[:3], rows[3:6]), Leaf((2,), rows[6:], ())))
        self.assertEqual(LOOK(text, split).fault, ("break", page(1, "b")))

    def test_breaks_of_three_rows(self):
        text = Text((para("b", *(("xxxxxxxx",) * 5)),))
        rows = ("0p1 xxxxxxxx", "xxxxxxxx xxxxxxxx", "xxxxxxxx xxxxxxxx .")
        for cut in (1, 2):
            self.assertEqual(LOOK(text, Book((Leaf((1,), rows[:cut], rows[cut:]),))).fault, ("break", page(1)))

    def test_a_page_may_end_behind_an_entry(self):
        one = Leaf((3,), ("- 1/1a what is paid",), ("- 2/2a last things",))
        parts = list(setting_book().leaves)
        self.assertTrue(LOOK(TEXT, Book((*parts[:2], one, parts[3]))))
        text = Text((para("a", "x"), ("index", "i", ("x",))))
        far = Book((Leaf((10,), ("0p1 x .",), ()), Leaf((11,), ("+ x 10a",), ())))
        self.assertTrue(LOOK(text, far))

    def test_the_last_row_of_all(self):
        text = Text((para("a", "x"), head("b", 2)))
        self.assertTrue(LOOK(text, Book((Leaf((1,), ("0p1 x .",), ("0.1 x",)),))))
        listed = Text((para("a", "x"), head("b", 2), ("contents", "c")))
        book = Book((Leaf((1,), ("0p1 x .", "0.1 x"), ()), Leaf((2,), ("- 0.1/1a x",), ())))
        self.assertEqual(LOOK(listed, book).fault, ("break", page(1)))

    def test_start(self):
        rows = setting_book().leaves
        on_a_back = (rows[0], Leaf((2,), rows[1].front, rows[2].front), rows[3])
        self.assertEqual(LOOK(TEXT, Book(on_a_back)).fault, ("start", 6))
        text = Text((para("a", "x"), head("b", 1), para("c", "x")))
        for parts, told in (((("0p1 x .",), ("1 x", "1p1 x .")), ("start", 1)), ((("0p1 x .", "1 x", "1p1 x ."), ()), ("start", 1))):
            self.assertEqual(LOOK(text, Book((Leaf((1,), *parts),))).fault, told)
        self.assertTrue(LOOK(text, Book((Leaf((1,), ("0p1 x .",), ()), Leaf((2,), ("1 x", "1p1 x ."), ())))))
        section = Text((para("a", "x"), head("b", 2), para("c", "x")))
        self.assertTrue(LOOK(section, Book((Leaf((1,), ("0p1 x .", "0.1 x", "0p2 x ."), ()),))))

    def test_an_index_begins_a_leaf(self):
        text = Text((para("a", "x"), ("contents", "c"), ("index", "i", ("x",))))
        for back, told in ((("+ x 1a",), ("start", 2)), ((), None)):
            leaves = [Leaf((1,), ("0p1 x .",), back)] + ([] if back else [Leaf((2,), ("+ x 1a",), ())])
            self.assertEqual(LOOK(text, Book(leaves)).fault, told)

    def test_pen(self):
        for stroke in ((0, 0, 0, "1"), (0, 1, 0, "1p1"), (0, 2, 0, "x"), (0, 4, 0, "*"), (1, 4, 2, ".")):
            self.assertEqual(fault((0, "pen", (stroke,))), ("pen", (1,)))
        self.assertEqual(fault((2, "pen", ((0, 0, 0, "-"),))), ("pen", (3,)))
        self.assertEqual(fault((3, "pen", ((0, 0, 2, "1b-2a"),))), ("pen", (4,)))
        self.assertEqual(fault((1, "pen", ((0, 1, 1, "the"),)), (3, "pen", ((0, 0, 2, "1b"),))), ("pen", (2,)))

    def test_pen_strokes_that_say_something_true(self):
        for pen in (((0, 2, 2, "1p2/1b"),), ((0, 2, 2, "1p2/overleaf"),), ((1, 4, 1, "2/2a"),), ((0, 2, 2, "1p2/1b"), (1, 4, 1, "2/2a"))):
            self.assertIsNone(fault((0, "pen", pen)))
        self.assertIsNone(fault((1, "pen", ((0, 1, 3, "1a-1b"),)), (2, "pen", ((0, 1, 1, "2/2a"),))))

    def test_word(self):
        for token in ("1p2/here", "1p2/facing", "1p2/1a", "1p2/2b", "1p1/overleaf", "1b", "1p2/", "1p2//1b", "x", "1p2/overleaf/1b", "2/1b"):
            self.assertEqual(fault((0, "pen", ((0, 2, 2, token),))), ("word", 1, 5), token)
        for token in ("1a", "1b", "1b-1a", "1a-2a", "1a-1b-1b", "1p1/1a"):
            self.assertEqual(fault((1, "pen", ((0, 1, 3, token),))), ("word", 5, 2), token)
        for token in ("2/2b", "2/here", "1/2a", "2/1b", "2.1/2a", "2a"):
            self.assertEqual(fault((2, "pen", ((0, 1, 1, token),))), ("word", 6, 1), token)
        self.assertEqual(fault((0, "pen", ((1, 4, 1, "2/1b"),)), (1, "pen", ((0, 1, 3, "2a"),))), ("word", 3, 4))

    def test_a_stroke_heals_what_is_printed(self):
        text = Text((para("a", ("see", "b")), para("b", "x")))
        book = Book((Leaf((1,), ("0p1 9/nowhere .", "0p2 x ."), (), ((0, 0, 1, "0p2/1a"),)),))
        self.assertTrue(LOOK(text, book))
        self.assertFalse(LOOK(text, Book((Leaf((1,), book.leaves[0].front, ()),))))
        broken = Book((Leaf((1,), ("0p1 here .", "0p2 x ."), (), ((0, 0, 1, "0p2/1a"),)),))
        self.assertEqual(LOOK(text, broken).fault, ("block", 0))

    def test_near_words_in_a_format_without_them(self):
        self.assertEqual(Looker(FAR)(TEXT, setting_book()).fault, ("word", 1, 5))

    def test_the_first_and_the_last_page_face_none(self):
        text = Text((para("a", ("see", "b")), para("b", ("see", "a"))))
        for words, told in ((("overleaf", "overleaf"), None), (("facing", "overleaf"), ("word", 0, 0)),
                            (("overleaf", "facing"), ("word", 1, 0))):
            book = Book((Leaf((1,), (f"0p1 0p2/{words[0]} .",), (f"0p2 0p1/{words[1]} .",)),))
            self.assertEqual(LOOK(text, book).fault, told)

    def test_index(self):
        for entry, told in (("+ desk 1b 2a", None), ("+ desk 1b-1b 2a", None), ("+ desk 1b-2b", None), ("+ desk 2a 1b", None),
                            ("+ desk 1b-2a 2a", None), ("+ desk 1b", ("index", 0)), ("+ desk 1a-2a", ("index", 0)),
                            ("+ desk", ("index", 0)), ("+ desk 1b 3a", ("index", 0)), ("+ desk 2a-1b", ("index", 0)),
                            ("+ desk 1b 2a 9a", ("index", 0)), ("+ desk 1b 2a 2b", None)):
            self.assertEqual(fault((3, "front", (entry, "+ pays 1a-1b"))), told, entry)
        self.assertEqual(fault((3, "front", ("+ desk 1b-2a", "+ pays 1a"))), ("index", 1))

    def test_a_term_that_stands_nowhere(self):
        text = Text((para("a", "x"), ("index", "i", ("w", "x"))))
        for entry, told in (("+ w", None), ("+ w 1a", ("index", 0)), ("+ w 1b", None)):
            self.assertEqual(LOOK(text, Book((Leaf((1,), ("0p1 x .",), ()), Leaf((2,), (entry, "+ x 1a"), ())))).fault, told)

    def test_the_first_fault_of_several(self):
        changes = [(3, "front", ("+ desk 1b", "+ pays 1a")), (1, "pen", ((0, 1, 3, "2a"),)), (3, "pen", ((0, 0, 0, "+"),))]
        self.assertEqual(fault(*changes[:1]), ("index", 0))
        self.assertEqual(fault(*changes[:2]), ("word", 5, 2))
        self.assertEqual(fault(*changes), ("pen", (4,)))
        leaves = setting_book(*changes).leaves
        moved = (leaves[0], Leaf((2,), leaves[1].front, leaves[2].front, leaves[1].pen), leaves[3])
        self.assertEqual(LOOK(TEXT, Book(moved)).fault, ("start", 6))
        cut = Leaf((2,), ("2 last things",), ("2p1 the desk 1a-1b", "closes ."))
        self.assertEqual(LOOK(TEXT, Book((moved[0], cut, *leaves[2:]))).fault, ("break", page(2)))
        footed = Leaf((3,), leaves[2].front, ("* x",))
        self.assertEqual(LOOK(TEXT, Book((moved[0], cut, footed, leaves[3]))).fault, ("foot", page(3, "b")))
        tall = Leaf((4,), leaves[3].front, ("* x",) * 7)
        self.assertEqual(LOOK(TEXT, Book((moved[0], cut, footed, tall))).fault, ("height", page(4, "b")))
        more = Leaf((5,), ("x",), ())
        self.assertEqual(LOOK(TEXT, Book((moved[0], cut, footed, tall, more))).fault, ("more",))


class PlainTest(unittest.TestCase):
    def test_plain(self):
        self.assertIs(is_plain(TEXT, FORM, setting_book()), True)
        self.assertIs(is_plain(TEXT, FAR, setting_book()), False)
        self.assertIs(is_plain(Text((("contents", "c"),)), FORM, Book(())), True)

    def test_not_plain(self):
        back = ("1f1 the desk", ":", ":", "1p2 who pays late", "sees 2/2a .")
        for changes in (((0, "pen", ((0, 2, 2, "1p2/overleaf"),)),), ((0, "back", back),), ((3, "front", ("+ desk 1b 2a", "+ pays 1a-1b")),),
                        ((3, "front", ("+ desk 1b-2b", "+ pays 1a-1b")),)):
            self.assertIsNone(fault(*changes))
            self.assertIs(is_plain(TEXT, FORM, setting_book(*changes)), False)
        self.assertIs(is_plain(TEXT, FORM, setting_book((3, "back", ("x",)))), False)
        self.assertIs(is_plain(TEXT, FORM, setting_book((3, "front", ("+ desk 1b", "+ pays 1a-1b")))), False)

    def test_one_page_is_one_token(self):
        text = Text((para("a", "x"), ("index", "i", ("x",))))
        for entry, plain in (("+ x 1a", True), ("+ x 1a-1a", False)):
            book = Book((Leaf((1,), ("0p1 x .",), ()), Leaf((2,), (entry,), ())))
            self.assertTrue(LOOK(text, book))
            self.assertIs(is_plain(text, FORM, book), plain)


if __name__ == "__main__":
    unittest.main()
