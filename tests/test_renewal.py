import unittest
from random import Random
from time import perf_counter

from afterleaves.books import Book
from afterleaves.edits import edited, edited_all, undoing
from afterleaves.errors import BadPrice, NoBook, TooMany
from afterleaves.formats import Format
from afterleaves.leaves import Leaf
from afterleaves.looker import Looker, is_plain
from afterleaves.renewal import Renewal, fresh_book
from afterleaves.rounds import Rounds
from afterleaves.settled import settled_books
from afterleaves.successors import price_of, strokes_of, successor_fault
from afterleaves.textread import read_text
from afterleaves.texts import Text
from tests.randomtexts import random_edit, random_text, random_texts
from tests.samples import aslists, fig, head, leaf, names, para, setting, setting_book
from tests.tryall import all_successors, least_price

FORM = Format(20, 6)
LONG = ("xxxxxxxx",) * 16
SMALL = (Format(20, 3), Format(20, 4), Format(24, 4, False), Format(30, 5))


def pencilled(random, book):
    """The book with a few strokes at random, and perhaps without one of its leaves."""
    leaves = []
    for one in book:
        pen = {}
        for side in (0, 1):
            for row, tokens in enumerate(one.said_rows(side)):
                for word, token in enumerate(tokens):
                    if random.random() < (0.5 if "/" in token else 0.02):
                        pen[(side, row, word)] = random.choice((token, token[:4] + "1a", "9/here", token.split("/")[0] + "/facing", "1b"))
        leaves.append(Leaf(one.label, one.front, one.back, sorted((*place, pen[place]) for place in pen)))
    if leaves and random.random() < 0.3:
        leaves.pop(random.randrange(len(leaves)))
    return Book(leaves)


class RenewalTest(unittest.TestCase):
    def check(self, renewal, old, text, form, leaf_price=1, stroke=None):
        """What holds for each renewal."""
        self.assertIsNone(successor_fault(old, renewal.book, text, form, strokes=stroke is not None))
        self.assertEqual(renewal.price, price_of(old, renewal.book, leaf=leaf_price, stroke=stroke or 1))
        self.assertEqual(renewal.strokes, strokes_of(old, renewal.book))
        self.assertEqual(tuple(sorted(renewal.kept + renewal.sent)), renewal.book.labels)
        self.assertEqual(tuple(sorted(renewal.kept + renewal.gone)), old.labels)
        for label in renewal.kept:
            self.assertTrue(old[label].same_print(renewal.book[label]))

    def test_the_same_text(self):
        renewal = Renewal(setting_book(), setting(), FORM)
        self.assertEqual(renewal.book, setting_book())
        self.assertEqual((renewal.price, renewal.kept, renewal.sent, renewal.gone, renewal.strokes),
                         (0, ((1,), (2,), (3,), (4,)), (), (), ()))

    def test_one_word(self):
        text = edited(setting(), ("swap", "more", ("para", "more", ("more", "desk", ("span", "dues", "plan"), "closes"))))
        renewal = Renewal(setting_book(), text, FORM)
        self.assertEqual((renewal.price, renewal.kept, renewal.sent, renewal.gone), (1, ((1,), (3,), (4,)), ((2,),), ((2,),)))
        self.assertEqual(renewal.book.leaves[1], Leaf((2,), ("2 last things", "2p1 more desk 1a-1b", "closes ."), ()))
        self.check(renewal, setting_book(), text, FORM)

    def test_new_leaves_between_kept_ones(self):
        # Each figure fills a page, and each paragraph; figures are not counted anew for paragraphs.
        text = Text([fig(name, 2) for name in "abcd"])
        form = Format(20, 3)
        old = fresh_book(text, form)
        self.assertEqual(old.labels, ((1,), (2,)))
        whole = [para(name, *LONG[:5]) for name in names(5)]
        for place, count, sent in ((0, 1, ((0, 1),)), (0, 3, ((0, 1), (0, 2))), (2, 1, ((1, 1),)), (2, 4, ((1, 1), (1, 2))), (4, 2, ((3,),)),
                                   (4, 5, ((3,), (4,), (5,)))):
            further = edited_all(text, [("put", place + k, whole[k]) for k in range(count)])
            for leaf_price in (1, 20):
                renewal = Renewal(old, further, form, leaf=leaf_price)
                self.check(renewal, old, further, form, leaf_price)
                self.assertEqual((renewal.sent, renewal.kept, renewal.gone), (sent, ((1,), (2,)), ()))
                self.assertEqual(renewal.price, leaf_price * len(sent))

    def test_labels_of_leaves_that_are_gone(self):
        text = Text([fig(name, 2) for name in "abcdef"])
        form = Format(20, 3)
        old = fresh_book(text, form)
        whole = [para(name, *LONG[:5]) for name in names(5)]
        # Two figures are taken out, and paragraphs come in their place: the figures behind them have the old numbers.
        for count in (1, 2):
            further = Text((*text.blocks[:2], *whole[:count], *text.blocks[4:]))
            renewal = Renewal(old, further, form)
            self.check(renewal, old, further, form)
            self.assertEqual((renewal.kept, renewal.sent, renewal.gone), (((1,), (2,)), ((1, 1),), ((3,),)))
        captions = Text((*text.blocks[:2], fig("c", 2, ()), fig("d", 1, ("z", )), *text.blocks[4:]))
        renewal = Renewal(old, captions, form)
        self.assertEqual((renewal.sent, renewal.gone, renewal.kept), (((2,),), ((2,),), ((1,), (3,))))

    def test_labels(self):
        form = Format(20, 3)
        paras = [para(name, name) for name in ("a", "b", "c", "d")]
        heads = [head("h" + name, 1, (name,)) for name in ("a", "b", "c", "d")]
        text = Text([block for pair in zip(heads, paras) for block in pair])
        old = Renewal(Book(()), text, form).book
        self.assertEqual(old.labels, ((1,), (2,), (3,), (4,)))
        # Chapters number what stands in them, and the leaves behind the first new one must be sent after it.
        for place, sent, kept in ((8, ((5,),), ((1,), (2,), (3,), (4,))), (6, ((4,), (5,)), ((1,), (2,), (3,)))):
            further = edited_all(text, [("put", place, ("head", "new", 1, ("x",))), ("put", place + 1, ("para", "newp", ("x",)))])
            renewal = Renewal(old, further, form)
            self.assertEqual((renewal.sent, renewal.kept), (sent, kept))
        sections = Text([head("s", 2, ("s",)), *[fig("f" + name, 1, (name,)) for name in names(8)]])
        book = Renewal(Book(()), sections, Format(20, 3)).book
        self.check(Renewal(book, sections, Format(20, 3)), book, sections, Format(20, 3))

    def test_more_new_leaves_than_old_labels(self):
        form = Format(20, 2)
        text = Text((para("a", *LONG[:3]), head("b", 2), para("c", ("see", "c"))))
        old = Renewal(Book(()), text, form).book
        longer = edited(text, ("swap", "a", para("a", *LONG)))
        renewal = Renewal(old, longer, form)
        self.check(renewal, old, longer, form)
        self.assertGreater(len(renewal.sent), len(renewal.gone))
        self.assertTrue(all(len(label) <= 2 for label in renewal.sent))

    def test_strokes(self):
        text = read_text(("para a see:c x", "fig b 4", "fig c 1 x"))
        form = Format(20, 6, False)
        old = fresh_book(text, form)
        self.assertEqual([old.leaves[0].front, old.leaves[0].back], [("0p1 0f2/1b x .", "0f1", ":", ":", ":", ":"), ("0f2 x", ":")])
        longer = edited(text, ("put", 2, para("new", *LONG[:12])))
        for leaf_price, stroke, price, sent in ((1, None, 2, 2), (2, 1, 3, 1), (1, 1, 2, None), (1, 2, 2, 2), (20, 1, 21, 1), (1, 20, 2, 2)):
            renewal = Renewal(old, longer, form, leaf=leaf_price, stroke=stroke)
            self.check(renewal, old, longer, form, leaf_price, stroke)

    def test_a_stroke_instead_of_a_leaf(self):
        text = read_text(("para a see:b x", "para b y"))
        form = Format(20, 3)
        old = Book((Leaf((1,), ("0p1 0p2/facing x .",), ()), Leaf((2,), ("0p2 y .",), ())))
        renewal = Renewal(old, text, form, leaf=5, stroke=1)
        self.assertEqual((renewal.price, renewal.kept, renewal.strokes), (1, ((1,), (2,)), (((1,), 0, 0, 1, "0p2/2a"),)))
        self.assertEqual(renewal.book.leaves[0].pen, ((0, 0, 1, "0p2/2a"),))
        without = Renewal(old, text, form, leaf=5)
        self.assertEqual((without.price, without.strokes, without.book.leaves[0].pen), (5, (), ()))
        self.assertEqual(Renewal(old, text, form, leaf=1, stroke=1).price, 1)
        self.assertEqual(Renewal(old, text, form, leaf=1, stroke=2).price, 1)

    def test_old_strokes_stay(self):
        old = setting_book((0, "pen", ((0, 2, 2, "1p2/1b"),)), (2, "pen", ((0, 1, 1, "2/9a"),)))
        renewal = Renewal(old, setting(), FORM, stroke=1)
        self.assertEqual([one.pen for one in renewal.book], [((0, 2, 2, "1p2/1b"),), (), ((0, 1, 1, "2/2a"),), ()])
        self.assertEqual((renewal.price, renewal.strokes), (1, (((3,), 0, 1, 1, "2/2a"),)))
        self.check(renewal, old, setting(), FORM, 1, 1)

    def test_a_leaf_that_cannot_have_its_old_print(self):
        # The old leaf 2 says a word that no book of the text says: a leaf of this print would be kept, and differ.
        old = setting_book((1, "pen", ((0, 0, 1, "first"),)))
        renewal = Renewal(old, setting(), FORM, stroke=1)
        self.check(renewal, old, setting(), FORM, 1, 1)
        self.assertNotIn((2,), renewal.kept)
        self.assertEqual(renewal.price, least_price(old, setting(), FORM, 5, 1, 1))
        one = Text((para("a", "x"),))
        self.assertRaises(NoBook, Renewal, Book((Leaf((1,), ("0p1 x .",), (), ((0, 0, 1, "y"),)),)), one, FORM)
        self.assertEqual(Renewal(Book((Leaf((1,), ("0p1 x .",), (), ((0, 0, 1, "x"),)),)), one, FORM).price, 0)

    def test_lists_that_cannot_have_their_old_print(self):
        # The old leaf of the index says another range: the entries must stand on two leaves, or on two pages.
        old = setting_book((3, "pen", ((0, 0, 2, "1a"),)))
        for stroke in (None, 1):
            renewal = Renewal(old, setting(), FORM, stroke=stroke)
            self.check(renewal, old, setting(), FORM, 1, stroke)
            self.assertEqual((renewal.price, renewal.kept), (1, ((1,), (2,), (3,))))
            self.assertEqual([renewal.book.leaves[3].front, renewal.book.leaves[3].back], [("+ desk 1b-2a",), ("+ pays 1a-1b",)])
        # That of the contents can be corrected by pen, or be sent in another print.
        old = setting_book((2, "pen", ((0, 1, 1, "2/9a"),)))
        self.assertEqual(Renewal(old, setting(), FORM, stroke=1).kept, ((1,), (2,), (3,), (4,)))
        renewal = Renewal(old, setting(), FORM)
        self.check(renewal, old, setting(), FORM)
        self.assertEqual(renewal.book.leaves[2].back, ("- 2/2a last things",))
        one = Text(setting().blocks[:2] + (fig("plan", 1), para("late"), ("contents", "l")))
        book = fresh_book(one, FORM)
        spoilt = Book((*book.leaves[:-1], Leaf(book.labels[-1], book.leaves[-1].front, (), ((0, 0, 1, "1/9a"),))))
        renewal = Renewal(spoilt, one, FORM)
        self.check(renewal, spoilt, one, FORM)
        self.assertEqual((renewal.price, renewal.sent), (3, ((1,), (2,), (3,))))
        self.assertEqual(Renewal(spoilt, one, FORM, stroke=2).price, 2)
        self.assertEqual(Renewal(spoilt, one, FORM, stroke=20).price, 3)

    def test_pointers_that_make_an_old_print(self):
        # The old leaf 1 is printed as it would be again, and says by pen what was true of another text.
        text = read_text(("para a see:c x", "fig b 4", "fig c 4"))
        form = Format(20, 6, False)
        book = fresh_book(text, form)
        old = Book((Leaf((1,), book.leaves[0].front, book.leaves[0].back, ((0, 0, 1, "0f2/2a"),)), *book.leaves[1:]))
        for stroke, price in ((None, least_price(old, text, form, 4, 1, None)), (1, 1), (20, least_price(old, text, form, 4, 1, 20))):
            if price is None:
                self.assertRaises(NoBook, Renewal, old, text, form, stroke=stroke)
            else:
                renewal = Renewal(old, text, form, stroke=stroke)
                self.check(renewal, old, text, form, 1, stroke)
                self.assertEqual(renewal.price, price)

    def test_an_edit_and_back(self):
        text = read_text(("para a see:c x", "fig b 2", "fig c 1 x", "contents l", "index i x"))
        form = Format(20, 5)
        book = fresh_book(text, form)
        edit = ("put", 1, para("new", *LONG[:12]))
        there = Renewal(book, edited(text, edit), form, leaf=3, stroke=1)
        self.check(there, book, edited(text, edit), form, 3, 1)
        for stroke in (None, 1):
            back = Renewal(there.book, edited(edited(text, edit), undoing(text, edit)), form, leaf=3, stroke=stroke)
            self.check(back, there.book, text, form, 3, stroke)

    def test_old_books_of_no_text(self):
        old = Book((leaf((3,), ("x y",), ("* z",)), leaf((5,), ("- 1/9a",), ("+ x 1a",)), leaf((7,), ("* x",))))
        renewal = Renewal(old, setting(), FORM)
        self.assertEqual((renewal.price, renewal.sent, renewal.gone), (4, ((3,), (5,), (7,), (8,)), ((3,), (5,), (7,))))
        self.check(renewal, old, setting(), FORM)

    def test_no_leaves(self):
        empty = Text((("contents", "c"),))
        self.assertEqual(Renewal(Book(()), empty, FORM).price, 0)
        renewal = Renewal(setting_book(), empty, FORM)
        self.assertEqual((renewal.price, renewal.book.leaves, renewal.gone), (0, (), ((1,), (2,), (3,), (4,))))

    def test_the_price_0(self):
        random = Random(8)
        done = {True: 0, False: 0}
        for text in random_texts(17, 40, (2, 3), (0, 1), items=4, chapters=False):
            form = random.choice(SMALL)
            try:
                old = pencilled(random, fresh_book(text, form))
            except NoBook:
                continue
            if random.random() < 0.5:
                text = random_edit(random, text)
            leaves = list(old)
            parts = [[one for k, one in enumerate(leaves) if bits >> k & 1] for bits in range(1 << len(leaves))]
            lawful = any(Looker(form)(text, Book(part)) for part in parts)
            for stroke in (None, 1):
                try:
                    price = Renewal(old, text, form, stroke=stroke).price
                except NoBook:
                    price = None
                self.assertEqual(price == 0, lawful)
            done[lawful] = done[lawful] + 1
        self.assertGreater(min(done.values()), 4)

    def test_no_book(self):
        for text in (Text((fig("a", 2),)), Text((head("a"), head("b")))):
            for stroke in (None, 1):
                self.assertRaises(NoBook, Renewal, setting_book(), text, Format(20, 2) if len(text) == 1 else FORM, stroke=stroke)

    def test_many_leaves(self):
        text = Text([para(name, *(["mmmmmmmm"] * 16)) for name in names(12)])
        renewal = Renewal(Book(()), text, Format(20, 2))
        self.assertEqual((renewal.price, len(renewal.book)), (50, 50))
        self.check(renewal, Book(()), text, Format(20, 2))
        part = Book(renewal.book.leaves[38:])
        self.check(Renewal(part, text, Format(20, 2)), part, text, Format(20, 2))

    def test_tried_against_all(self):
        random = Random(20)
        done = {}
        for text in random_texts(21, 70, (2, 3), (0, 1, 1), items=5, chapters=False):
            form = random.choice(SMALL)
            try:
                old = fresh_book(text, form)
            except NoBook:
                old = Book(())
            if random.random() < 0.5:
                old = pencilled(random, old)
            further = random_edit(random, text) if random.random() < 0.8 else text
            leaf_price, stroke = random.choice((1, 2, 5)), random.choice((None, 1, 3))
            try:
                renewal = Renewal(old, further, form, leaf=leaf_price, stroke=stroke)
                self.check(renewal, old, further, form, leaf_price, stroke)
                price, count = renewal.price, len(renewal.book)
            except NoBook:
                price, count = None, 0
            if count <= 3:
                self.assertEqual(price, least_price(old, further, form, 3, leaf_price, stroke))
                done[price] = done.get(price, 0) + 1
        self.assertGreater(len(done), 4)

    def test_what_is_passed_stays(self):
        old = setting_book()
        first = Renewal(old, setting(), FORM)
        self.assertRaises(NoBook, Renewal, old, edited(setting(), ("drop", "more")), FORM)
        second = Renewal(old, edited(setting(), ("put", 2, para("new", "x"))), FORM)
        self.assertNotEqual(second.book, first.book)
        self.assertEqual(second.book, Renewal(old, edited(setting(), ("put", 2, para("new", "x"))), FORM).book)
        self.assertEqual((old, first.book, first.price), (setting_book(), setting_book(), 0))


class ErrorTest(unittest.TestCase):
    def raised(self, old, text, **prices):
        with self.assertRaises((TooMany, BadPrice)) as caught:
            Renewal(old, text, FORM, **prices)
        return caught.exception.word

    def test_sizes(self):
        twelve = [para(name) for name in names(12)]
        self.assertGreaterEqual(Renewal(Book(()), Text(twelve), FORM).price, 1)
        many = para("many", *((("see", "aa"),) * 5))
        four = para("aa", *((("see", "aa"),) * 4))
        books = Book([leaf((k,)) for k in range(1, 13)]), Book([leaf((k,)) for k in range(1, 14)])
        self.assertGreaterEqual(Renewal(books[0], Text((four,)), FORM).price, 1)
        thirteen = Text(twelve + [many])
        five = Text((twelve[0], many))
        self.assertEqual(self.raised(books[1], thirteen, leaf=0, stroke=0), "block")
        self.assertEqual(self.raised(books[1], five, leaf=0, stroke=0), "pointer")
        self.assertEqual(self.raised(books[1], Text((four,)), leaf=0, stroke=0), "leaf")
        for text, word in ((thirteen, "block"), (five, "pointer")):
            with self.assertRaises(TooMany) as caught:
                fresh_book(text, FORM)
            self.assertEqual(caught.exception.word, word)

    def test_prices(self):
        for price in (0, 21, -1, True, None, "1"):
            self.assertEqual(self.raised(Book(()), setting(), leaf=price, stroke=0), "leaf")
        for price in (0, 21, -1, True, False, "1"):
            self.assertEqual(self.raised(Book(()), setting(), stroke=price), "stroke")
        self.assertEqual(Renewal(Book(()), setting(), FORM, leaf=20, stroke=20).price, 80)
        # The errors of the call go ahead of those of the work.
        self.assertEqual(self.raised(Book(()), Text((head("a"), head("b"))), stroke=0), "stroke")


class FreshTest(unittest.TestCase):
    def test_fresh(self):
        book = fresh_book(setting(), FORM)
        self.assertTrue(is_plain(setting(), FORM, book))
        self.assertEqual(book.labels, ((1,), (2,), (3,), (4,)))
        self.assertEqual(fresh_book(Text((("contents", "c"),)), FORM).leaves, ())
        self.assertRaises(NoBook, fresh_book, Text((fig("a", 2),)), Format(20, 2))

    def test_no_more_leaves_than_settled_books(self):
        done = 0
        for text in random_texts(41, 60, (3, 6, 10), (0, 2, 4)):
            form = Format(20, 5)
            try:
                book = fresh_book(text, form)
            except NoBook:
                self.assertEqual(settled_books(text, form), ())
                continue
            self.assertTrue(is_plain(text, form, book))
            self.assertEqual(book.labels, tuple((k + 1,) for k in range(len(book))))
            settled = settled_books(text, form)
            self.assertTrue(all(len(book) <= len(other) for other in settled))
            done = done + len(settled)
        self.assertGreater(done, 30)

    def test_a_text_that_does_not_settle(self):
        text, form = read_text(("para a late see:a see:b a see:b keeper", "fig b 1")), Format(20, 3)
        self.assertFalse(Rounds(text, form).rests)
        self.assertEqual(settled_books(text, form), ())
        trials = all_successors(Book(()), text, form, 3, False)
        if trials:
            self.assertEqual(len(fresh_book(text, form)), min(len(book) for book in trials))
        else:
            self.assertRaises(NoBook, fresh_book, text, form)

    def test_the_fewest_of_all(self):
        for text in random_texts(43, 40, (2, 3), (0, 1, 2), items=4, chapters=False):
            form = Format(20, 4)
            try:
                count = len(fresh_book(text, form))
            except NoBook:
                count = None
            if count is None or count <= 3:
                self.assertEqual(count, least_price(Book(()), text, form, 3, 1, None))

    def test_lists(self):
        self.assertEqual(fresh_book(Text(aslists(setting().blocks)), FORM), fresh_book(setting(), FORM))


class TimeTest(unittest.TestCase):
    def test_at_the_bounds(self):
        random = Random(3)
        for _ in range(6):
            text = random_text(random, 10, 4, 12)
            while len(text) > 12:
                text = random_text(random, 10, 4, 12)
            form = Format(20, 5)
            began = perf_counter()
            try:
                old = fresh_book(text, form)
            except NoBook:
                continue
            further = random_edit(random, random_edit(random, text))
            if len(old) <= 12 and len(further) <= 12:
                try:
                    Renewal(old, further, form, leaf=2, stroke=1)
                except NoBook:
                    pass
            self.assertLess(perf_counter() - began, 10)


if __name__ == "__main__":
    unittest.main()
