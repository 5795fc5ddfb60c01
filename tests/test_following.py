import unittest
from random import Random

from afterleaves.books import Book
from afterleaves.errors import BadForm, NoPointer, NotThere
from afterleaves.following import follow, pointers_on, walk
from afterleaves.leaves import Leaf
from tests.archives import random_archive
from tests.samples import aslists, book, page, setting_book

A, AB, B, BB, C = page(1), page(1, "b"), page(2), page(2, "b"), page(3)


def one(*rows, pen=(), back=()):
    return Book((Leaf((1,), rows, back, pen),))


class FollowTest(unittest.TestCase):
    def test_the_setting(self):
        told = {(A, 2, 2): ("found", AB, 3), (AB, 4, 1): ("found", B, 0), (C, 0, 1): ("found", A, 0), (C, 1, 1): ("found", B, 0)}
        self.assertEqual(pointers_on(setting_book()), tuple(sorted(told)))
        for place, answer in told.items():
            self.assertEqual(follow(setting_book(), place), answer)
            self.assertEqual(follow(setting_book(), aslists(place)), answer)

    def test_place_words(self):
        binder = book(Leaf((1,), ("1 a", "x 1/here 2/overleaf"), ("2 b", "y 3/facing 3/2a 3/2b 3/9a")), Leaf((2,), ("3 c", "z 2/facing 3/overleaf"), ()),
                      Leaf((5,), ("4 d 3/facing 4/overleaf",), ("5 e 5/facing 5/here",)))
        for place, answer in (((A, 1, 1), ("found", A, 0)), ((A, 1, 2), ("found", AB, 0)), ((AB, 1, 1), ("found", B, 0)), ((AB, 1, 2), ("found", B, 0)),
                              ((AB, 1, 3), ("lost", "number")), ((AB, 1, 4), ("lost", "leaf")), ((B, 1, 1), ("found", AB, 0)),
                              ((B, 1, 2), ("lost", "number")), ((page(5), 0, 2), ("lost", "number")), ((page(5), 0, 3), ("lost", "number")),
                              ((page(5, "b"), 0, 2), ("lost", "leaf")), ((page(5, "b"), 0, 3), ("found", page(5, "b"), 0))):
            with self.subTest(place):
                self.assertEqual(follow(binder, place), answer)

    def test_the_first_and_the_last_page_face_none(self):
        binder = one("1 a 1/facing 2/facing", back=("2 1/facing",))
        for place in ((A, 0, 2), (A, 0, 3), (AB, 0, 1)):
            self.assertEqual(follow(binder, place), ("lost", "leaf"))

    def test_facing_hangs_on_the_binder(self):
        leaves = setting_book().leaves
        self.assertEqual(follow(Book(leaves[:1]), (AB, 4, 1)), ("lost", "leaf"))
        self.assertEqual(follow(Book((leaves[0], leaves[2])), (AB, 4, 1)), ("lost", "number"))
        between = Book((leaves[0], Leaf((1, 5), ("2 thing",), ()), *leaves[1:]))
        self.assertEqual(follow(between, (AB, 4, 1)), ("found", ((1, 5), 0), 0))
        self.assertEqual(follow(Book(leaves[2:]), (C, 0, 1)), ("lost", "leaf"))
        self.assertEqual(follow(Book(leaves[1:]), (C, 1, 1)), ("found", B, 0))

    def test_words_of_no_form(self):
        for word in ("her", "Here", "1", "1c", "01a", "0a", "1.0a", "1a-1b", "facing.", "1A", "100a", "a", "1a."):
            self.assertEqual(follow(one("1 x", f"y 1/{word}"), (A, 1, 1)), ("lost", "leaf"), word)
        self.assertEqual(follow(one("1 x", "y 1/1a"), (A, 1, 1)), ("found", A, 0))

    def test_the_first_row_with_the_number(self):
        binder = one("x 2/here 2", "2 first", "2 second", "y 2", "? ?/here y/here")
        self.assertEqual(follow(binder, (A, 0, 1)), ("found", A, 1))
        self.assertEqual(follow(binder, (A, 4, 1)), ("found", A, 4))
        self.assertEqual(follow(binder, (A, 4, 2)), ("found", A, 3))

    def test_foot_rows_are_no_text_rows(self):
        binder = one("1 2/here 1/here", "* x 1/here", "2 y", back=("* 1/1a",))
        self.assertEqual(follow(binder, (A, 0, 1)), ("lost", "number"))
        self.assertEqual(follow(binder, (A, 0, 2)), ("found", A, 0))
        self.assertEqual(pointers_on(binder), ((A, 0, 1), (A, 0, 2)))
        for place in ((A, 1, 2), (AB, 0, 1)):
            self.assertRaises(NoPointer, follow, binder, place)

    def test_strokes(self):
        binder = one("1 x 2/here", "2 y z", "3", pen=((0, 0, 2, "3/here"), (0, 1, 0, "3"), (0, 1, 2, "3/1a"), (0, 2, 0, "2")))
        self.assertEqual(pointers_on(binder), ((A, 0, 2), (A, 1, 2)))
        self.assertEqual(follow(binder, (A, 0, 2)), ("found", A, 1))
        # Which rows are foot rows is told by the print.
        crossed = one("1 2/here", "* 2/here", "2", pen=((0, 1, 0, "2"),))
        self.assertEqual(follow(crossed, (A, 0, 1)), ("lost", "number"))
        starred = one("1 2/here", "2 2/here", pen=((0, 1, 0, "*"),))
        self.assertEqual((follow(starred, (A, 0, 1)), pointers_on(starred)), (("lost", "number"), ((A, 0, 1), (A, 1, 1))))
        gone = one("1 1/here", pen=((0, 0, 1, "x"),))
        self.assertEqual(pointers_on(gone), ())
        self.assertRaises(NoPointer, follow, gone, (A, 0, 1))

    def test_no_pointers(self):
        binder = one("1 x/ /x a/b/c / x // a/b", "* a/b")
        for place in ((A, 0, 0), (A, 0, 1), (A, 0, 2), (A, 0, 3), (A, 0, 4), (A, 0, 6), (A, 0, 8), (A, 0, -1), (A, -1, 0), (A, 1, 1), (A, 2, 0), (AB, 0, 0),
                      (B, 0, 0), (((1, 1), 0), 0, 7), (((1,), 2), 0, 7), ((None, 0), 0, 7)):
            for call in (follow, lambda *parts: list(walk(*parts))):
                with self.subTest(place), self.assertRaises(NoPointer) as caught:
                    call(binder, place)
                self.assertEqual(caught.exception.place, place)
                self.assertIsInstance(caught.exception, NotThere)
                self.assertNotIsInstance(caught.exception, BadForm)
        self.assertEqual(pointers_on(binder), ((A, 0, 7),))
        self.assertEqual(follow(binder, (A, 0, 7)), ("lost", "leaf"))

    def test_no_leaves(self):
        self.assertEqual(pointers_on(Book(())), ())
        self.assertRaises(NoPointer, follow, Book(()), (A, 0, 0))

    def test_pages_without_rows(self):
        binder = one("1 1/overleaf 1/1b")
        self.assertEqual((follow(binder, (A, 0, 1)), follow(binder, (A, 0, 2))), (("lost", "number"),) * 2)

    def test_editions(self):
        random = Random(91)
        done = 0
        for _ in range(30):
            archive = random_archive(random)
            for binder in archive.books:
                for place in pointers_on(binder):
                    self.assertEqual(follow(binder, place)[0], "found")
                    done = done + 1
        self.assertGreater(done, 100)


class WalkTest(unittest.TestCase):
    def test_the_setting(self):
        binder = setting_book()
        self.assertEqual(list(walk(binder, (A, 2, 2))), [("found", AB, 3), ("found", B, 0)])
        self.assertEqual(list(walk(binder, (C, 0, 1))), [("found", A, 0), ("found", AB, 3), ("found", B, 0)])
        self.assertEqual(list(walk(binder, aslists((C, 0, 1)))), [("found", A, 0), ("found", AB, 3), ("found", B, 0)])

    def test_lost(self):
        binder = Book(setting_book().leaves[:1])
        self.assertEqual(list(walk(binder, (A, 2, 2))), [("found", AB, 3), ("lost", "leaf")])
        self.assertEqual(list(walk(binder, (AB, 4, 1))), [("lost", "leaf")])

    def test_rounds(self):
        binder = one("1 x 2/here", "2 y 1/here 3/here", "3 z")
        self.assertEqual(list(walk(binder, (A, 0, 2))), [("found", A, 1), ("found", A, 0)])
        self.assertEqual(list(walk(binder, (A, 1, 2))), [("found", A, 0), ("found", A, 1)])
        self.assertEqual(list(walk(binder, (A, 1, 3))), [("found", A, 2)])
        self.assertEqual(list(walk(one("1 1/here"), (A, 0, 1))), [("found", A, 0)])
        tail = one("1 x 2/here", "2 y 3/here", "3 z 2/here")
        self.assertEqual(list(walk(tail, (A, 0, 2))), [("found", A, 1), ("found", A, 2), ("found", A, 1)])

    def test_goes_on_at_or_behind_the_row(self):
        binder = one("1 5/here", "2 x", "goes on 4/here 5/here", "3 2/here", "4 y", back=("6 2/1a", "7 5/1a"))
        self.assertEqual(list(walk(binder, (AB, 0, 1))), [("found", A, 1), ("found", A, 4)])
        self.assertEqual(list(walk(binder, (A, 3, 1))), [("found", A, 1), ("found", A, 4)])
        self.assertEqual(list(walk(binder, (AB, 1, 1))), [("lost", "number")])
        later = one("1 2/overleaf", back=("2 x", "* 1/1a"))
        self.assertEqual(list(walk(later, (A, 0, 1))), [("found", AB, 0)])

    def test_nothing_is_done_ahead(self):
        binder = one("1 x")
        steps = walk(binder, (A, 0, 0))
        self.assertRaises(NoPointer, next, steps)
        steps = walk(setting_book(), (A, 2, 2))
        self.assertIs(iter(steps), steps)
        self.assertEqual(next(steps), ("found", AB, 3))

    def test_what_is_passed_stays(self):
        binder = setting_book()
        first = list(walk(binder, (A, 2, 2)))
        first.clear()
        self.assertEqual(list(walk(binder, (A, 2, 2))), [("found", AB, 3), ("found", B, 0)])
        self.assertEqual(binder, setting_book())

    def test_binders_that_lack_leaves(self):
        random = Random(92)
        ends = {}
        for _ in range(40):
            archive = random_archive(random)
            for whole in archive.books:
                binder = Book([each for each in whole if random.random() < 0.7])
                for place in pointers_on(binder):
                    answers = list(walk(binder, place))
                    self.assertEqual(answers[0], follow(binder, place))
                    self.assertTrue(all(answer[0] == "found" for answer in answers[:-1]))
                    self.assertLessEqual(len(answers), len(pointers_on(binder)))
                    for answer, further in zip(answers, answers[1:]):
                        pointers = [other for other in pointers_on(binder) if other[0] == answer[1] and other[1] >= answer[2]]
                        self.assertEqual(follow(binder, pointers[0]), further)
                    ends[answers[-1][:1] + answers[-1][1:2] if answers[-1][0] == "lost" else "found"] = True
        self.assertGreaterEqual(len(ends), 3)


if __name__ == "__main__":
    unittest.main()
