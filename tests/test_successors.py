import unittest

from afterleaves.books import Book
from afterleaves.errors import BadForm, BadPrice, NotThere
from afterleaves.formats import Format
from afterleaves.leaves import Leaf
from afterleaves.successors import price_of, strokes_of, successor_fault
from afterleaves.texts import Text
from tests.samples import fig, leaf, setting, setting_book

FORM = Format(20, 6)
TEXT = setting()
OLD = setting_book()


def judged(new, old=OLD, strokes=False, text=TEXT, form=FORM):
    return successor_fault(old, new, text, form, strokes=strokes)


class StrokesTest(unittest.TestCase):
    def test_strokes(self):
        old = setting_book((0, "pen", ((0, 2, 2, "x"), (1, 4, 1, "y"))))
        new = setting_book((0, "pen", ((0, 0, 0, "9"), (1, 4, 1, "y"))), (2, "pen", ((0, 1, 1, "2/9a"),)))
        self.assertEqual(strokes_of(old, new), (((1,), 0, 0, 0, "9"), ((1,), 0, 2, 2, "1p2/overleaf"), ((3,), 0, 1, 1, "2/9a")))
        self.assertEqual(strokes_of(old, old), ())
        self.assertEqual(strokes_of(Book(()), new), ())

    def test_a_stroke_may_say_the_printed_token(self):
        self.assertEqual(strokes_of(OLD, setting_book((0, "pen", ((0, 2, 2, "1p2/overleaf"),)))), ())

    def test_leaves_of_another_print(self):
        old = Book((leaf((1,), ("a",)), leaf((2,), ("a",)), leaf((3,), ("a",))))
        new = Book((leaf((1,), ("a",), pen=((0, 0, 0, "z"),)), leaf((2,), ("b",)), leaf((4,), ("a",), pen=((0, 0, 0, "z"),))))
        self.assertEqual(strokes_of(old, new), (((1,), 0, 0, 0, "z"),))
        self.assertEqual(price_of(old, new), 3)
        self.assertEqual(price_of(old, new, leaf=20, stroke=3), 43)
        self.assertEqual(price_of(old, new, leaf=1, stroke=20), 22)
        self.assertEqual(price_of(Book(()), new), 3)
        self.assertEqual(price_of(old, Book(())), 0)

    def test_prices(self):
        for word, more in (("leaf", "stroke"), ("stroke", None)):
            for price in (0, 21, -1, True, False, None, "1", (1,), 1.0):
                with self.subTest(price), self.assertRaises(BadPrice) as caught:
                    price_of(OLD, OLD, **{word: price}, **({more: 0} if more else {}))
                self.assertEqual(caught.exception.word, word)
                self.assertIsInstance(caught.exception, BadForm)
                self.assertNotIsInstance(caught.exception, NotThere)


class FaultTest(unittest.TestCase):
    def test_none(self):
        self.assertIsNone(judged(OLD))
        self.assertIsNone(judged(OLD, strokes=True))
        self.assertIsNone(judged(OLD, Book(())))
        self.assertIsNone(judged(Book(()), text=Text((("contents", "c"),))))

    def test_unlawful(self):
        self.assertEqual(judged(Book(())), ("unlawful", ("block", 0)))
        self.assertEqual(judged(setting_book((2, "pen", ((0, 0, 1, "1/9a"),)))), ("unlawful", ("word", 6, 0)))
        self.assertEqual(judged(OLD, form=Format(20, 4)), ("unlawful", ("height", ((1,), 0))))

    def test_kept_leaves_say_the_same(self):
        old = setting_book((0, "pen", ((0, 2, 2, "1p2/1b"),)))
        self.assertIsNone(judged(old, old))
        # The old leaf says something true, and it is left to say so.
        self.assertEqual(judged(OLD, old), ("stroke", (1,)))
        self.assertEqual(judged(OLD, old, True), ("stroke", (1,)))
        self.assertEqual(judged(old, OLD, True), ("stroke", (1,)))

    def test_strokes_where_the_old_token_is_not_true(self):
        old = setting_book((0, "pen", ((0, 2, 2, "1p2/9b"),)))
        self.assertEqual(judged(OLD, old), ("stroke", (1,)))
        self.assertIsNone(judged(OLD, old, True))
        self.assertIsNone(judged(setting_book((0, "pen", ((0, 2, 2, "1p2/overleaf"),))), old, True))
        self.assertEqual(judged(setting_book((0, "pen", ((0, 2, 2, "1p2/1b"),))), old, True), ("stroke", (1,)))

    def test_old_strokes_at_other_places(self):
        old = setting_book((0, "pen", ((0, 0, 1, "who"),)), (3, "pen", ((0, 0, 2, "1a"),)))
        self.assertEqual(judged(OLD, old, True), ("stroke", (1,)))
        self.assertEqual(judged(OLD, Book(old.leaves[1:]), True), ("stroke", (4,)))
        same = setting_book((0, "pen", ((0, 0, 1, "what"),)))
        self.assertIsNone(judged(OLD, same))

    def test_the_contents(self):
        old = setting_book((2, "pen", ((0, 1, 1, "2/9a"),)))
        self.assertIsNone(judged(OLD, old, True))
        self.assertEqual(judged(OLD, old), ("stroke", (3,)))

    def test_plain(self):
        back = ("1f1 the desk", ":", ":", "1p2 who pays late", "sees 2/2a .")
        for change in ((0, "back", back), (0, "pen", ((0, 2, 2, "1p2/overleaf"),)), (2, "pen", ((0, 1, 1, "2/2a"),)),
                       (3, "front", ("+ desk 1b 2a", "+ pays 1a-1b")), (3, "front", ("+ desk 1b-2b", "+ pays 1a-1b"))):
            new = setting_book(change)
            self.assertEqual(judged(new, Book(())), ("plain", new.leaves[change[0]].label))
            self.assertIsNone(judged(new, new))

    def test_kept_leaves_need_not_be_plain(self):
        new = setting_book((3, "front", ("+ desk 1b-2b", "+ pays 1a-1b")))
        self.assertIsNone(judged(new, Book(new.leaves[3:])))
        self.assertEqual(judged(new, Book(new.leaves[:3])), ("plain", (4,)))

    def test_the_first_of_several(self):
        old = setting_book((1, "pen", ((0, 0, 1, "first"),)))
        new = setting_book((2, "pen", ((0, 1, 1, "2/2a"),)), (3, "label", (9,)))
        part = Book((old.leaves[1],))
        self.assertEqual(judged(new, part, True), ("stroke", (2,)))
        self.assertEqual(judged(new, Book(OLD.leaves[:2]), True), ("plain", (3,)))
        self.assertEqual(judged(setting_book((3, "label", (9,))), Book(OLD.leaves[:2])), ("label", (9,)))


class LabelTest(unittest.TestCase):
    """A text of figures, each of which fills the front of a leaf."""

    FORM = Format(20, 3)

    def leaves(self, labels):
        return [Leaf(label, (f"0f{k + 1}", ":", ":"), ()) for k, label in enumerate(labels)]

    def check(self, old_labels, kept, labels, told):
        """Of an old book with these labels the leaves kept, {number in the new book: label}, stay; told is the fault."""
        text = Text([fig("abcdefg"[k], 2) for k in range(len(labels))])
        new = self.leaves(labels)
        old = [leaf(label, ("x",)) for label in old_labels if label not in kept] + [one for one in new if one.label in kept]
        fault = successor_fault(Book(sorted(old, key=lambda one: one.label)), Book(new), text, self.FORM)
        self.assertEqual(fault, None if told is None else ("label", told))

    def test_labels(self):
        one, two, three, four = (1,), (2,), (3,), (4,)
        for old, kept, labels, told in (
                ((), (), (one, two), None), ((), (), (one, three), three), ((), (), (two, three), two),
                ((one, two), (), (one, two), None), ((one, two), (), (two,), two), ((two, four), (), (two, four, (5,)), None),
                ((two, four), (), (two, three), three), ((two, four), (), (one, two), one),
                ((one, two), (one, two), (one, (1, 1), two), None), ((one, two), (one, two), (one, (1, 1), (1, 2), two), None),
                ((one, two), (one, two), (one, (1, 2), two), (1, 2)), ((one, two, three), (one, three), (one, two, three), None),
                ((one, two, three), (one, three), (one, (1, 1), three), (1, 1)),
                ((one, two, three), (one, three), (one, two, (2, 1), three), None),
                ((one, two, three), (one, three), (one, (1, 1), two, three), (1, 1)),
                ((one,), (one,), ((0, 1), one), None), ((one,), (one,), ((0, 1), (0, 2), one), None),
                ((two,), (two,), (one, two), None), ((three,), (three,), (one, two, three), None),
                ((one, (1, 1)), (one, (1, 1)), (one, (1, 0, 1), (1, 1)), None), ((one, four), (one,), (one, four, (5,)), None),
                ((one, four), (one,), (one, two), two)):
            with self.subTest((old, labels)):
                self.check(old, kept, labels, told)

    def test_no_room(self):
        self.check(((1,), (1, 0, 1)), ((1,), (1, 0, 1)), ((1,), (1, 0, 1)), None)
        self.check(((0, 0, 1),), ((0, 0, 1),), ((0, 0, 1), (1,)), None)
        self.check(((2, 1), (2, 2)), ((2, 2),), ((2, 1), (2, 1, 1), (2, 2)), None)

    def test_what_is_passed_stays(self):
        old = setting_book((0, "pen", ((0, 2, 2, "1p2/9b"),)))
        before = (old.leaves, OLD.leaves)
        self.assertEqual(judged(OLD, old, True), judged(OLD, old, True))
        self.assertEqual((old.leaves, OLD.leaves), before)


if __name__ == "__main__":
    unittest.main()
