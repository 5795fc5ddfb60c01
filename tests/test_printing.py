import unittest

from afterleaves.formats import Format
from afterleaves.lines import set_lines
from afterleaves.printing import Printed, entry_rows, see_token, span_token
from afterleaves.texts import Text
from tests.samples import aslists, example, fig, head, para

FORM = Format(20, 6)
PAGE, BACK, FAR = ((7,), 0), ((7,), 1), ((7, 0, 1), 1)


def printed(block, told=(), form=FORM):
    """The print of a block behind a chapter and a section."""
    text = Text((head("chapter"), head("section", 2), block))
    return Printed(text, 2, told, form)


class HeadsTest(unittest.TestCase):
    def test_one_row(self):
        made = printed(head("h", 1, ("what", "is", "paid")))
        self.assertEqual(made.rows, ("2 what is paid",))
        self.assertEqual((made.feet, made.ends, made.heights, len(made)), (((),), (False,), (1,), 1))

    def test_several_rows(self):
        made = printed(head("h", 2, ("abcdefgh", "abcdefgh", "abcdefgh")))
        self.assertEqual(made.rows, ("1.2 abcdefgh", "abcdefgh abcdefgh"))
        self.assertEqual((made.feet, made.ends, made.heights, len(made)), (((), ()), (False, False), (1, 1), 2))

    def test_the_number_takes_room(self):
        words = ("a" * 8, "b" * 7)
        self.assertEqual(printed(head("h", 1, words)).rows, ("2 aaaaaaaa bbbbbbb",))
        self.assertEqual(printed(head("h", 2, words)).rows, ("1.2 aaaaaaaa bbbbbbb",))
        self.assertEqual(printed(head("h", 2, ("a" * 8, "b" * 8))).rows, ("1.2 aaaaaaaa", "bbbbbbbb"))


class FiguresTest(unittest.TestCase):
    def test_rows(self):
        made = printed(fig("f", 3, ("the", "desk")))
        self.assertEqual(made.rows, ("1f1 the desk", ":", ":", ":"))
        self.assertEqual(made.feet, ((), (), (), ()))
        self.assertEqual(made.ends, (False, False, False, True))
        self.assertEqual((made.heights, len(made)), ((1, 1, 1, 1), 4))

    def test_no_caption(self):
        made = printed(fig("f", 1))
        self.assertEqual((made.rows, made.ends), (("1f1", ":"), (False, True)))

    def test_a_long_caption(self):
        made = printed(fig("f", 6, ("abcdefgh",) * 4))
        self.assertEqual(made.rows, ("1f1 abcdefgh", "abcdefgh abcdefgh", "abcdefgh") + (":",) * 6)
        self.assertEqual(made.ends, (False,) * 8 + (True,))


class ParagraphsTest(unittest.TestCase):
    def test_the_example(self):
        made = Printed(example(), 1, ("1p2/facing",), FORM)
        self.assertEqual(made.rows, ("1p1 each pays as", "told in 1p2/facing", "(*) ."))
        self.assertEqual(made.feet, ((), (), ("* since may",)))
        self.assertEqual(made.ends, (False, False, True))
        self.assertEqual((made.heights, len(made)), ((1, 1, 2), 3))

    def test_told_tokens_move_the_rows(self):
        made = Printed(example(), 1, ("1p2/99.99.99a",), FORM)
        self.assertEqual(made.rows, ("1p1 each pays", "as told in", "1p2/99.99.99a (*) ."))
        wide = Printed(example(), 1, ("1p2/1a",), Format(60, 6))
        self.assertEqual(wide.rows, ("1p1 each pays as told in 1p2/1a (*) .",))
        self.assertEqual((wide.feet, wide.ends), ((("* since may",),), (True,)))

    def test_told_tokens_come_in_order(self):
        block = para("p", ("see", "chapter"), "a", ("span", "chapter", "p"), ("note", ("w",)), ("see", "p"))
        made = printed(block, ("1/2a", "1a-3b", "1p1/here"), Format(60, 6))
        self.assertEqual(made.rows, ("1p1 1/2a a 1a-3b (*) 1p1/here .",))

    def test_where_a_page_may_end(self):
        for rows, ends in ((1, "T"), (2, "FT"), (3, "FFT"), (4, "FTFT"), (5, "FTTFT"), (6, "FTTTFT"), (8, "FTTTTTFT")):
            made = printed(para("p", *["abcdefgh"] * (2 * rows - 2) or ["a"]))
            self.assertEqual(len(made), rows)
            self.assertEqual(made.ends, tuple([end == "T" for end in ends]))

    def test_several_marks_in_one_row(self):
        block = para("p", ("note", ("first",)), ("note", ("second", "note")), "a", ("note", ("third",)))
        made = printed(block)
        self.assertEqual(made.rows, ("1p1 (*) (*) a (*) .",))
        self.assertEqual(made.feet, (("* first", "* second note", "* third"),))
        self.assertEqual(made.heights, (4,))

    def test_notes_of_several_rows(self):
        block = para("p", ("note", ("abcdefgh",) * 4), "abcdefgh", "abcdefgh", ("note", ("x",)))
        made = printed(block)
        self.assertEqual(made.rows, ("1p1 (*) abcdefgh", "abcdefgh (*) ."))
        self.assertEqual(made.feet, (("* abcdefgh abcdefgh", "abcdefgh abcdefgh"), ("* x",)))
        self.assertEqual(made.heights, (3, 2))

    def test_marks_in_different_rows(self):
        items = []
        for word in ("a", "b", "c"):
            items.extend(["abcdefgh", "abcdefgh", ("note", (word,))])
        made = printed(para("p", *items))
        brought = [foot for feet in made.feet for foot in feet]
        self.assertEqual(brought, ["* a", "* b", "* c"])
        for row, feet in zip(made.rows, made.feet):
            self.assertEqual(len(feet), row.split(" ").count("(*)"))

    def test_a_mark_at_the_end_of_its_row(self):
        made = printed(para("p", "abcdefgh", "abc", ("note", ("x",)), "abcdefgh", ("note", ("y",))))
        self.assertEqual(made.rows, ("1p1 abcdefgh abc (*)", "abcdefgh (*) ."))
        self.assertEqual(made.feet, (("* x",), ("* y",)))

    def test_the_word_note_is_no_note(self):
        made = printed(para("p", "note", "n", "see", "span", "next"), (), Format(60, 2))
        self.assertEqual((made.rows, made.feet), (("1p1 note n see span next .",), ((),)))

    def test_blocks_have_their_own_rows(self):
        text = Text((para("a", "x"), para("b", "y", ("see", "a"))))
        one = Printed(text, 0, (), FORM)
        other = Printed(text, 1, ("0p1/1a",), FORM)
        self.assertEqual((one.rows, other.rows), (("0p1 x .",), ("0p2 y 0p1/1a .",)))
        self.assertEqual(one.rows, Printed(text, 0, [], FORM).rows)

    def test_lists(self):
        told = ["1p2/facing"]
        made = Printed(example(), 1, told, FORM)
        self.assertEqual(made.rows, Printed(example(), 1, tuple(told), FORM).rows)
        self.assertEqual(told, ["1p2/facing"])
        for thing in (made.rows, made.feet, made.ends, made.heights, made.feet[0]):
            self.assertIsInstance(thing, tuple)


class TokensTest(unittest.TestCase):
    def test_see_tokens(self):
        for target, word, token in ((0, "here", "1/here"), (1, "overleaf", "1p1/overleaf"), (2, "7b", "1f1/7b"),
                                    (3, "facing", "1p2/facing"), (4, "7.0.1a", "2/7.0.1a")):
            self.assertEqual(see_token(example(), target, word), token)
        self.assertEqual(see_token(Text((head("h", 2),)), 0, "1a"), "0.1/1a")

    def test_span_tokens(self):
        for first, last, token in ((PAGE, PAGE, "7a"), (PAGE, BACK, "7a-7b"), (BACK, FAR, "7b-7.0.1b"), (FAR, PAGE, "7.0.1b-7a")):
            self.assertEqual(span_token(first, last), token)
            self.assertEqual(span_token(aslists(first), last), token)
            self.assertEqual(span_token(first, aslists(last)), token)

    def test_entries(self):
        tokens = ("-", "1/1a", "what", "is", "paid", "what")
        self.assertEqual(entry_rows(tokens, Format(60, 2)), ("- 1/1a what is paid what",))
        self.assertEqual(entry_rows(tokens, FORM), set_lines(tokens, 20))
        self.assertEqual(entry_rows(list(tokens), FORM), ("- 1/1a what is paid", "what"))
        self.assertEqual(entry_rows(("+", "term"), FORM), ("+ term",))


if __name__ == "__main__":
    unittest.main()
