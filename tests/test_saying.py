import unittest
from itertools import product

from afterleaves.books import Book
from afterleaves.errata import Errata
from afterleaves.errors import AfterError, BadForm, NotThere, TooMany, Unlike
from afterleaves.leaves import Leaf
from afterleaves.saying import can_say, healing_list
from tests.samples import aslists, leaf, page, setting_book

A = page(1)


def errata(*turns, place=(A, 0, 0)):
    return Errata([(*place, *turn) for turn in turns])


def said(book):
    return [[one.said_rows(side) for side in (0, 1)] for one in book]


class CanSayTest(unittest.TestCase):
    def test_tokens(self):
        for lists, token, tokens in (((), "a", "a"), ((errata("ab"),), "a", "ab"), ((errata("ab"),), "b", "b"), ((errata("ab", "bc"),), "a", "ac"),
                                     ((errata("bc", "ab"),), "a", "abc"), ((errata("ab"), errata("bc")), "a", "abc"),
                                     ((errata("bc"), errata("ab")), "a", "abc"), ((errata("ab"), errata("ba")), "b", "ab"),
                                     ((errata("ca"), errata("ab"), errata("bc")), "c", "abc"), ((errata("ab", place=(A, 0, 1)),), "a", "a")):
            self.assertEqual(can_say(lists, A, 0, 0, token), tuple(tokens))
            self.assertEqual(can_say(list(lists), aslists(A), 0, 0, token), tuple(tokens))

    def test_all_rows_tried(self):
        lists = (errata("ab", "cd"), errata("bc"), errata("da", "ax"))
        for token in "abcdxy":
            reached = {token}
            for count in range(1, 6):
                for row in product(lists, repeat=count):
                    one = token
                    for step in row:
                        one = step.turned(A, 0, 0, one)
                    reached.add(one)
            self.assertEqual(can_say(lists, A, 0, 0, token), tuple(sorted(reached)))


class HealingTest(unittest.TestCase):
    def test_the_least_list(self):
        old = Book((Leaf((1,), ("a b",), ()),))
        new = Book((Leaf((1,), ("a b",), (), ((0, 0, 0, "z"),)),))
        lists = (errata("ac"), errata("cd"), errata("bx", place=(A, 0, 1)))
        healing = healing_list(lists, old, new)
        self.assertEqual(healing.corrections, ((A, 0, 0, "a", "z"), (A, 0, 0, "c", "z"), (A, 0, 0, "d", "z"), (A, 0, 1, "x", "b")))
        for count in range(4):
            for row in product(lists, repeat=count):
                book = old
                for one in row:
                    book = one(book)
                self.assertEqual(said(healing(book)), said(new))

    def test_no_lists(self):
        old = setting_book((0, "pen", ((0, 2, 2, "x"),)))
        new = setting_book((1, "pen", ((0, 1, 3, "2a"),)))
        self.assertEqual(healing_list((), old, new).corrections, ((A, 2, 2, "x", "1p2/overleaf"), (page(2), 1, 3, "1a-1b", "2a")))
        self.assertEqual(healing_list((), old, old), Errata(()))
        self.assertEqual(healing_list((), Book(()), Book(())), Errata(()))

    def test_what_old_says_counts(self):
        old = Book((Leaf((1,), ("a",), (), ((0, 0, 0, "b"),)),))
        self.assertEqual(healing_list((errata("ac"), errata("bd")), old, Book((Leaf((1,), ("a",), ()),))).corrections,
                         ((A, 0, 0, "b", "a"), (A, 0, 0, "d", "a")))

    def test_unlike_books(self):
        one, two, three = leaf((1,)), leaf((2,)), leaf((3,))
        for old, new, label in (((one,), (two,), (1,)), ((one, two), (one,), (2,)), ((two,), (one, two), (1,)), ((), (three,), (3,)),
                                ((one, leaf((2,), ("x",)), three), (one, two), (2,)), ((one, three), (one, leaf((3,), back=("x",))), (3,))):
            with self.assertRaises(Unlike) as caught:
                healing_list((), Book(old), Book(new))
            self.assertEqual(caught.exception.label, label)
            self.assertIsInstance(caught.exception, AfterError)
            self.assertNotIsInstance(caught.exception, (BadForm, NotThere))

    def test_too_many(self):
        rows = (" ".join("x" * 30),) * 3
        for count, fits in ((60, True), (61, False)):
            new = Book((Leaf((1,), rows, (), [(0, k // 30, k % 30, "y") for k in range(count)]),))
            old = Book((Leaf((1,), rows, ()),))
            if fits:
                self.assertEqual(len(healing_list((), old, new)), 60)
                with self.assertRaises(TooMany) as caught:
                    healing_list((errata("xz"),), old, new)
                self.assertEqual(caught.exception.word, "correction")
            else:
                self.assertRaises(TooMany, healing_list, (), old, new)

    def test_what_is_passed_stays(self):
        lists = [errata("ac"), errata("cd")]
        old = Book((Leaf((1,), ("a b",), ()),))
        healing_list(lists, old, old)
        self.assertEqual([len(one) for one in lists], [1, 1])
        self.assertEqual(old, Book((Leaf((1,), ("a b",), ()),)))
        self.assertEqual(healing_list(lists, old, old), healing_list(tuple(lists), old, old))


if __name__ == "__main__":
    unittest.main()
