import unittest
from itertools import combinations
from random import Random
from time import perf_counter

from afterleaves.books import Book, is_kept
from afterleaves.edits import edited
from afterleaves.errors import NoBook, NotThere, TooMany, Unknown
from afterleaves.formats import Format
from afterleaves.leaves import Leaf
from afterleaves.renewal import Renewal, fresh_book
from afterleaves.staying import must_go, quarrels, staying
from afterleaves.successors import successor_fault
from afterleaves.textread import read_text
from afterleaves.texts import Text
from tests.randomtexts import random_text, random_texts
from tests.samples import aslists, fig, leaf, names, para, setting, setting_book
from tests.test_renewal import SMALL, pencilled, random_edit
from tests.tryall import all_successors

FORM = Format(20, 6)


def new_leaves(old, book):
    return sum(not is_kept(old, one) for one in book)


class StayingTest(unittest.TestCase):
    def test_the_same_text(self):
        self.assertEqual(staying(setting_book(), ((1,), (4,)), setting(), FORM), setting_book())
        self.assertEqual(staying(setting_book(), (), setting(), FORM), setting_book())
        self.assertEqual(must_go(setting_book(), setting(), FORM), ())
        self.assertEqual(quarrels(setting_book(), setting(), FORM), ())

    def test_leaves_that_must_go(self):
        text = edited(setting(), ("swap", "more", ("para", "more", ("more", "desk", ("span", "dues", "plan"), "closes"))))
        self.assertEqual(must_go(setting_book(), text, FORM), ((2,),))
        self.assertIsNone(staying(setting_book(), ((2,),), text, FORM))
        book = staying(setting_book(), ((1,), (3,), (4,)), text, FORM)
        self.assertEqual(book, Renewal(setting_book(), text, FORM).book)

    def test_leaves_that_say_what_is_not_true(self):
        old = setting_book((0, "pen", ((0, 2, 2, "1p2/9b"),)))
        # No other leaf may have the print of the leaf 1: the rows stand elsewhere then, and the index tells of that.
        self.assertEqual(must_go(old, setting(), FORM), ((1,), (4,)))

    def test_leaves_that_quarrel(self):
        # The pointer of the leaf 1 says that the paragraph faces it, which that of the leaf 3 does not let be.
        text = read_text(("para a see:b x", "para b y"))
        form = Format(20, 3)
        one = Leaf((1,), ("0p1 0p2/2a x .",), ())
        old = Book((one, Leaf((2,), ("0p2 y .",), ()), Leaf((3,), ("0p2 y .",), ())))
        self.assertEqual(quarrels(old, text, form), (((1,), (3,)), ((2,), (3,))))
        self.assertEqual(must_go(old, text, form), ())
        self.assertIsNone(staying(old, ((1,), (3,)), text, form))
        self.assertEqual(staying(old, ((1,), (2,)), text, form).labels, ((1,), (2,)))
        book = staying(old, ((3,),), text, form)
        self.assertIsNone(successor_fault(old, book, text, form))
        self.assertEqual(new_leaves(old, book), 1)

    def test_no_successor_at_all(self):
        text = Text((fig("a", 2),))
        old = Book((leaf((1,)), leaf((2,))))
        self.assertIsNone(staying(old, (), text, Format(20, 2)))
        self.assertIsNone(staying(old, ((1,),), text, Format(20, 2)))
        self.assertEqual(must_go(old, text, Format(20, 2)), ((1,), (2,)))
        self.assertEqual(quarrels(old, text, Format(20, 2)), ())

    def test_the_book_without_leaves(self):
        self.assertEqual(must_go(Book(()), setting(), FORM), ())
        self.assertEqual(quarrels(Book(()), setting(), FORM), ())
        self.assertEqual(staying(Book(()), (), setting(), FORM), fresh_book(setting(), FORM))
        empty = Text((("contents", "c"),))
        self.assertEqual(staying(setting_book(), (), empty, FORM).leaves, ())
        self.assertEqual(must_go(setting_book(), empty, FORM), ((1,), (2,), (3,), (4,)))

    def test_unknown_labels(self):
        for labels, name in ((((1,), (5,), (6,)), (5,)), (((1, 1),), (1, 1)), (((4,), (0, 1)), (0, 1))):
            for thing in (labels, aslists(labels)):
                with self.assertRaises(Unknown) as caught:
                    staying(setting_book(), thing, setting(), FORM)
                self.assertEqual(tuple(caught.exception.name), name)
                self.assertIsInstance(caught.exception, NotThere)

    def test_any_order(self):
        for labels in (((4,), (1,)), ((1,), (1,)), [[4], [2]]):
            self.assertEqual(staying(setting_book(), labels, setting(), FORM), setting_book())

    def test_sizes(self):
        twelve = [para(name) for name in names(12)]
        thirteen = Text(twelve + [para("many", *((("see", "aa"),) * 5))])
        five = Text((twelve[0], para("many", *((("see", "aa"),) * 5))))
        books = Book([leaf((k,)) for k in range(1, 13)]), Book([leaf((k,)) for k in range(1, 14)])
        for old, text, word in ((books[1], thirteen, "block"), (books[1], five, "pointer"), (books[1], Text(twelve), "leaf")):
            for call in (lambda: staying(old, ((99,),), text, FORM), lambda: must_go(old, text, FORM), lambda: quarrels(old, text, FORM)):
                with self.assertRaises(TooMany) as caught:
                    call()
                self.assertEqual(caught.exception.word, word)
        self.assertEqual(must_go(books[0], Text(twelve), FORM), books[0].labels)

    def test_tried_against_all(self):
        random = Random(50)
        done = {}
        for text in random_texts(51, 60, (2, 3), (0, 1, 1), items=5, chapters=False):
            form = random.choice(SMALL)
            try:
                old = fresh_book(text, form)
            except NoBook:
                continue
            if random.random() < 0.5:
                old = pencilled(random, old)
            further = random_edit(random, text) if random.random() < 0.8 else text
            books = all_successors(old, further, form, 3, False)
            kept = [[one.label for one in book if is_kept(old, one)] for book in books]
            gone, quarrelling = must_go(old, further, form), quarrels(old, further, form)
            for count in range(len(old) + 1):
                for labels in combinations(old.labels, count):
                    told = staying(old, labels, further, form)
                    prices = [new_leaves(old, book) for book, stay in zip(books, kept) if all(label in stay for label in labels)]
                    if told is None:
                        self.assertEqual(prices, [])
                    else:
                        self.assertIsNone(successor_fault(old, told, further, form))
                        self.assertTrue(all(is_kept(old, told[label]) for label in labels))
                        self.assertTrue(len(told) > 3 or new_leaves(old, told) == min(prices))
                    if count == 1:
                        self.assertEqual(told is None, labels[0] in gone)
                    if count == 2:
                        able = labels[0] not in gone and labels[1] not in gone
                        self.assertEqual(told is None and able, labels in quarrelling)
            key = (len(old), len(gone))
            done[key] = done.get(key, 0) + 1
        self.assertGreater(len(done), 4)

    def test_at_the_bounds(self):
        random = Random(6)
        for _ in range(4):
            text = random_text(random, 10, 4, 12)
            form = Format(20, 5)
            try:
                old = fresh_book(text, form)
            except NoBook:
                continue
            further = random_edit(random, text)
            if len(old) <= 12 and len(further) <= 12:
                began = perf_counter()
                gone = must_go(old, further, form)
                pairs = quarrels(old, further, form)
                self.assertLess(perf_counter() - began, 20)
                self.assertTrue(all(one not in gone and two not in gone and one < two for one, two in pairs))
                if len(gone) == len(old):
                    continue
                kept = Renewal(old, further, form).kept
                self.assertTrue(all(label not in gone for label in kept))
                self.assertTrue(all(pair not in pairs for pair in combinations(kept, 2)))

    def test_what_is_passed_stays(self):
        old = setting_book()
        labels = [[1], [2]]
        self.assertEqual(staying(old, labels, setting(), FORM), staying(old, labels, setting(), FORM))
        self.assertEqual((labels, old), ([[1], [2]], setting_book()))


if __name__ == "__main__":
    unittest.main()
