import unittest

from afterleaves.errors import AfterError, NoBook, TooMany
from afterleaves.filling import set_book
from afterleaves.formats import Format
from afterleaves.looker import Looker
from afterleaves.reading import Reading
from afterleaves.texts import Text
from tests.randomtexts import random_texts
from tests.samples import SETTING_TOLD, aslists, fig, head, names, para, setting, setting_book

LONG = ("xxxxxxxx",) * 16


def sides(book):
    """The fronts and backs of a book, by turns."""
    return [side for leaf in book for side in (leaf.front, leaf.back)]


def least_leaves(reading):
    """The fewest leaves into which the text rows of the plain blocks can be parted by the rules, tried one by one."""
    lists = [k for k, block in enumerate(reading.text.blocks) if block[0] in ("contents", "index") and reading.parts[k]]
    last = reading.parts[lists[0]][0].first if lists else len(reading.rows)
    begins = [reading.parts[k][0].first for k, block in enumerate(reading.text.blocks) if block[:1] + block[2:3] == ("head", 1)]
    heights = [1 + len(feet) for feet in reading.feet]

    def may_end(behind):
        return reading.ends[behind - 1] or behind == len(reading.rows)

    def pages(first):
        return [behind for behind in range(first + 1, last + 1)
                if sum(heights[first:behind]) <= reading.form.height and may_end(behind)
                and not any(first < begin < behind for begin in begins)]

    reached, count = {0}, 0
    while last not in reached:
        count = count + 1
        fronts = {behind for first in reached for behind in pages(first)}
        reached = fronts | {behind for first in fronts if first not in begins for behind in pages(first)}
    return count


class SettingTest(unittest.TestCase):
    def test_the_setting(self):
        self.assertEqual(set_book(setting(), SETTING_TOLD, Format(20, 6)), setting_book())
        self.assertEqual(set_book(setting(), list(SETTING_TOLD), Format(20, 6)), setting_book())

    def test_told_tokens_need_not_be_true(self):
        book = set_book(setting(), ("1p2/99.9.9b", "2/here", "7a-8.1b"), Format(20, 6))
        self.assertEqual(book.leaves[0].front, ("1 what is paid", "1p1 each pays as", "told in 1p2/99.9.9b", "(*) .", "* since may"))
        self.assertEqual(book.leaves[0].back[-1], "sees 2/here .")
        self.assertEqual(book.leaves[1].front, ("2 last things", "2p1 the desk 7a-8.1b", "closes ."))
        self.assertEqual(book.leaves[2:], setting_book().leaves[2:])

    def test_wider_tokens_move_the_rows(self):
        text = Text((para("a", ("see", "b"), "xxxxx"), fig("b", 2)))
        for token, front in (("0f1/1a", ("0p1 0f1/1a xxxxx .", "0f1", ":", ":")), ("0f1/overleaf", ("0p1 0f1/overleaf", "xxxxx ."))):
            book = set_book(text, (token,), Format(20, 4))
            self.assertEqual(sides(book)[0], front)

    def test_no_rows(self):
        self.assertEqual(set_book(Text((("contents", "c"),)), (), Format(20, 2)).leaves, ())

    def test_contents_without_heads(self):
        text = Text((para("a", "x"), ("contents", "c"), ("index", "i", ("x", "z"))))
        self.assertEqual(sides(set_book(text, (), Format(20, 2))), [("0p1 x .",), (), ("+ x 1a", "+ z"), ()])
        self.assertEqual(sides(set_book(Text(text.blocks[:2]), (), Format(20, 2))), [("0p1 x .",), ()])
        only = Text((("contents", "c"), ("index", "i", ("x",))))
        self.assertEqual(sides(set_book(only, (), Format(20, 2))), [("+ x",), ()])

    def test_chapters_and_lists_begin_a_leaf(self):
        text = Text((head("a"), para("b"), head("c"), para("d"), head("e", 2), para("f"), ("contents", "l"), ("index", "i", ("x",))))
        self.assertEqual(sides(set_book(text, (), Format(20, 12))), [
            ("1 x", "1p1 x ."), (), ("2 x", "2p1 x .", "2.1 x", "2p2 x ."), (),
            ("- 1/1a x", "- 2/2a x", "- 2.1/2a x"), (), ("+ x 1a-2a",), ()])

    def test_backs_stay_without_rows(self):
        book = set_book(Text((head("a"), para("b"), head("c"), para("d"))), (), Format(20, 2))
        self.assertEqual(sides(book), [("1 x", "1p1 x ."), (), ("2 x", "2p1 x ."), ()])
        self.assertEqual(book.labels, ((1,), (2,)))

    def test_pages_end_where_they_may(self):
        rows = ("0p1 xxxxxxxx",) + ("xxxxxxxx xxxxxxxx",) * 7 + ("xxxxxxxx .",)
        text = Text((para("a", *LONG),))
        for height, cuts in ((2, (2, 4, 6, 7)), (3, (3, 6)), (4, (4, 7)), (5, (5,)), (6, (6,)), (7, (7,)), (8, (7,)), (9, ())):
            bounds = (0, *cuts, 9)
            told = [rows[first:last] for first, last in zip(bounds, bounds[1:])]
            if len(told) % 2:
                told.append(())
            self.assertEqual(sides(set_book(text, (), Format(20, height))), told, height)

    def test_a_page_that_can_take_no_row(self):
        # Behind the first and the second of three rows a page may not end.
        self.assertRaises(NoBook, set_book, Text((para("a", *LONG[:5]),)), (), Format(20, 2))
        for blocks in ((head("a"), head("b"), para("c")), (head("a"), ("contents", "l")), (fig("a", 2),), (fig("a", 6, ("x",)),),
                       (head("a"), fig("b", 1)), (para("a", "x", ("note", ("a",)), ("note", ("b",))),)):
            with self.subTest(blocks), self.assertRaises(NoBook):
                set_book(Text(blocks), (), Format(20, 2))

    def test_the_last_row_of_the_text(self):
        for blocks, told in (((para("a"), head("b")), [("0p1 x .",), (), ("1 x",), ()]), ((head("a", 2),), [("0.1 x",), ()]),
                             ((para("a"), head("b", 2)), [("0p1 x .", "0.1 x"), ()])):
            self.assertEqual(sides(set_book(Text(blocks), (), Format(20, 2))), told)
        for blocks in ((head("a", 2), ("index", "i", ("x",))), (head("a", 2), ("contents", "c"))):
            self.assertRaises(NoBook, set_book, Text(blocks), (), Format(20, 12))

    def test_foot_rows_take_room(self):
        notes = (("note", ("one",)), "x", "xxxxxxxx", "xxxxxxxx", ("note", ("two", "three")), "xxxxxxxx", "xxxxxxxx", "xxxxxxxx")
        text = Text((para("a", *notes),))
        rows = ("0p1 (*) x xxxxxxxx", "xxxxxxxx (*)", "xxxxxxxx xxxxxxxx", "xxxxxxxx .")
        self.assertEqual(sides(set_book(text, (), Format(20, 6))), [(*rows, "* one", "* two three"), ()])
        self.assertEqual(sides(set_book(text, (), Format(20, 5))), [(*rows[:2], "* one", "* two three"), rows[2:]])
        self.assertRaises(NoBook, set_book, text, (), Format(20, 3))

    def test_entries_stay_whole(self):
        words = ("xxxxxxxx",) * 6
        blocks = [head("a", 1, words), para("b"), head("c", 2, words), para("d"), ("contents", "l")]
        book = set_book(Text(blocks), (), Format(20, 5))
        self.assertEqual([len(side) for side in sides(book)][-2:], [4, 4])
        self.assertRaises(NoBook, set_book, Text(blocks), (), Format(20, 3))

    def test_widths(self):
        text = Text((para("a", *(("mmmmmmmm",) * 3)),))
        self.assertEqual(sides(set_book(text, (), Format(20, 4)))[0], ("0p1 mmmmmmmm", "mmmmmmmm", "mmmmmmmm ."))
        self.assertEqual(sides(set_book(text, (), Format(60, 4)))[0], ("0p1 mmmmmmmm mmmmmmmm mmmmmmmm .",))

    def test_forty_leaves(self):
        # At the height 2 the nine rows of each paragraph stand on five pages.
        blocks = [para(name, *LONG) for name in names(24)]
        self.assertEqual(len(set_book(Text(blocks[:16]), (), Format(20, 2))), 40)
        self.assertEqual(len(set_book(Text((*blocks[:15], ("index", "i", ("z",)))), (), Format(20, 2))), 39)
        for more in ([blocks[16]], [para("end")], [("index", "i", ("z",))], [head("end")], [fig("end", 2)]):
            with self.subTest(more), self.assertRaises(TooMany) as caught:
                set_book(Text(blocks[:16] + more), (), Format(20, 2))
            self.assertEqual(caught.exception.word, "leaf")

    def test_the_error_that_is_met_first(self):
        blocks = [para(name, *LONG) for name in names(24)]
        for figure, error in ((10, NoBook), (15, NoBook), (16, TooMany), (23, TooMany)):
            with self.subTest(figure), self.assertRaises(error):
                set_book(Text((*blocks[:figure], fig("f", 2), *blocks[figure:23])), (), Format(20, 2))

    def test_an_entry_that_is_too_long(self):
        # The term stands on the first of the four pages of each paragraph.
        blocks = [para(name, "z", *LONG[:15]) for name in names(20)]
        self.assertRaises(NoBook, set_book, Text((*blocks[:14], ("index", "i", ("z",)))), (), Format(20, 2))
        self.assertRaises(TooMany, set_book, Text((*blocks, ("index", "i", ("z",)))), (), Format(20, 2))
        book = set_book(Text((*blocks[:2], ("index", "i", ("z",)))), (), Format(20, 2))
        self.assertEqual(book.leaves[-1].front, ("+ z 1a 3a",))

    def test_none_needs_fewer_leaves(self):
        done = 0
        for text in random_texts(5, 60, (3, 6, 9), (0, 1, 2)):
            for form in (Format(20, 4), Format(24, 5), Format(30, 7, False)):
                told = ["1a" if len(text.targets(k, item)) == 2 else "1/1a" for k, item in text.pointers()]
                try:
                    book = set_book(text, told, form)
                except NoBook:
                    continue
                reading = Reading(text, form, book)
                lists = sum(1 for k, place in enumerate(reading.places) if place and text.blocks[k][0] in ("contents", "index"))
                plain = [place[0][0] for place, block in zip(reading.places, text.blocks) if place and block[0] in ("contents", "index")]
                body = plain[0] - 1 if plain else len(book)
                self.assertGreaterEqual(len(book), body + lists)
                self.assertEqual(body, least_leaves(reading))
                done = done + 1
        self.assertGreater(done, 60)

    def test_a_setting_is_lawful_but_for_its_words(self):
        done = 0
        for text in random_texts(6, 80, (2, 5, 10), (0, 2, 4)):
            told = ["9.9a-10b" if len(text.targets(k, item)) == 2 else f"{text.numbers[text.targets(k, item)[0]]}/9.9a"
                    for k, item in text.pointers()]
            form = Format(26, 6)
            try:
                book = set_book(text, told, form)
            except AfterError:
                continue
            fault = Looker(form)(text, book).fault
            self.assertEqual(fault, ("word", *text.pointers()[0]) if told else None)
            self.assertEqual(set_book(text, aslists(told), form), book)
            done = done + 1
        self.assertGreater(done, 40)


if __name__ == "__main__":
    unittest.main()
