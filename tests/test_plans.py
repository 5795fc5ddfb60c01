import unittest
from itertools import product
from random import Random
from time import perf_counter

from afterleaves.books import Book
from afterleaves.edits import edited
from afterleaves.errors import BadForm, BadPrice, NoBook, TooMany
from afterleaves.formats import Format
from afterleaves.leaves import Leaf
from afterleaves.plans import best_plan, plan_price
from afterleaves.renewal import Renewal, fresh_book
from afterleaves.successors import successor_fault
from afterleaves.texts import Text
from tests.archives import SMALL
from tests.randomtexts import random_edit, random_texts
from tests.samples import fig, head, names, para, setting, setting_book

FORM = Format(20, 6)
WORDS = ("recast", "send", "wait")
LONG = ("xxxxxxxx",) * 16
BARRED = Text((head("a"), head("b")))


def lettered(letters):
    """A text of a figure on each page for each letter, which is its caption."""
    return Text([fig("f" + name, 6, (letter,)) for name, letter in zip(names(24), letters)])


TALL = Format(20, 7)
OLD = fresh_book(lettered("abcdef"), TALL)


def tried(old, texts, form, words, late):
    """The price and the books of a plan, made one after the other; None if it is none."""
    if len(words) != len(texts) or words[-1] == "wait" or "wait" * (late + 1) in "".join(words):
        return None
    price, books = 0, []
    for text, word in zip(texts, words):
        try:
            if word == "send":
                renewal = Renewal(books[-1] if books else old, text, form)
                price, books = price + renewal.price, [*books, renewal.book]
            elif word == "recast":
                books.append(fresh_book(text, form))
                price = price + len(books[-1])
        except (NoBook, TooMany):
            return None
    return (price, tuple(books))


class PlanPriceTest(unittest.TestCase):
    def test_prices(self):
        texts = [lettered(letters) for letters in ("xbcdef", "xycdef", "xyzdef")]
        for words, price, count in ((("send", "send", "send"), 3, 3), (("wait", "wait", "send"), 2, 1), (("wait", "send", "send"), 2, 2),
                                    (("wait", "wait", "recast"), 3, 1), (("recast", "send", "send"), 5, 3), (("send", "recast", "send"), 5, 3),
                                    (("recast", "wait", "recast"), 6, 2)):
            told = plan_price(OLD, texts, TALL, words)
            self.assertEqual((told[0], len(told[1])), (price, count))
            self.assertIsInstance(told[1], tuple)
            self.assertEqual(plan_price(OLD, texts, TALL, list(words)), told)
            self.assertEqual(told, tried(OLD, texts, TALL, words, 3))
            last = [word for word in words if word != "wait"]
            self.assertEqual(len(told[1]), len(last))
        sent = plan_price(OLD, texts, TALL, ("send", "wait", "send"))[1]
        self.assertEqual(sent[0], Renewal(OLD, texts[0], TALL).book)
        self.assertEqual(sent[1], Renewal(sent[0], texts[2], TALL).book)
        self.assertIsNone(successor_fault(sent[0], sent[1], texts[2], TALL))

    def test_what_is_no_plan(self):
        texts = (lettered("xbcdef"), lettered("xycdef"))
        for words in (None, "send", (), ("send",), ("send",) * 3, ("send", "wait"), ("wait", "wait"), ("send", "Send"), ("send", None), ("send", ("send",)),
                      ("sendsend", "send"), ("", "send"), 5, {"send": 1, "recast": 2}, ("send", True)):
            self.assertIsNone(plan_price(OLD, texts, TALL, words), words)
        self.assertIsNotNone(plan_price(OLD, texts, TALL, ("send", "send")))

    def test_late(self):
        texts = [lettered("x" * k + "abcdef"[k:]) for k in range(1, 5)]
        for late in range(4):
            for words in product(WORDS, repeat=4):
                waits = max(len(part) for part in "".join("w" if word == "wait" else " " for word in words).split(" "))
                fits = words[-1] != "wait" and waits <= late
                self.assertEqual(plan_price(OLD, texts, TALL, words, late=late) is not None, fits, (words, late))
        self.assertIsNotNone(plan_price(OLD, texts, TALL, ("wait", "wait", "wait", "send")))

    def test_books_that_cannot_be_made(self):
        texts = (lettered("xbcdef"), BARRED, lettered("xyzdef"))
        for words, there in ((("send", "send", "send"), False), (("send", "recast", "send"), False), (("send", "wait", "send"), True), (("wait", "wait", "recast"), True)):
            self.assertEqual(plan_price(OLD, texts, TALL, words) is not None, there)
        self.assertIsNone(plan_price(OLD, (BARRED,), TALL, ("recast",)))

    def test_twelve_leaves_and_thirteen(self):
        small = Format(20, 2)
        for count, fits in ((12, True), (13, False)):
            text = Text([para(name, *(["mmmmmmmm"] * 4)) for name in names(12)])
            wide = Book([Leaf((k,), ("x",), ()) for k in range(1, count + 1)])
            self.assertEqual(plan_price(wide, (text,), small, ("send",)) is not None, fits)
            self.assertIsNotNone(plan_price(wide, (text,), small, ("recast",)))
        # A book of the plan itself can have too many leaves for the next renewal.
        long = Text([para(name, *(["mmmmmmmm"] * 16)) for name in names(4)])
        self.assertGreater(len(fresh_book(long, small)), 12)
        self.assertIsNone(plan_price(Book(()), (long, long), small, ("send", "send")))
        self.assertIsNone(plan_price(Book(()), (long, long), small, ("recast", "send")))
        self.assertEqual(best_plan(Book(()), (long, long), small)[0], ("wait", "recast"))

    def test_old_books_with_strokes(self):
        old = setting_book((0, "pen", ((0, 2, 2, "1p2/1b"),)))
        price, books = plan_price(old, (setting(),), FORM, ("send",))
        self.assertEqual((price, books[0].leaves[0].pen), (0, ((0, 2, 2, "1p2/1b"),)))


class ErrorTest(unittest.TestCase):
    def raised(self, kind, *parts, **late):
        word = None
        for call in (lambda: plan_price(OLD, *parts, ("send",), **late), lambda: best_plan(OLD, *parts, **late)):
            with self.assertRaises(kind) as caught:
                call()
            word = caught.exception.word
        return word

    def test_texts_that_are_too_large(self):
        good, blocks = lettered("abc"), Text([fig(name) for name in names(13)])
        pointers = Text((para("a", *[("see", "a")] * 5),))
        both = Text([fig(name) for name in names(12)] + [para("zz", *[("see", "zz")] * 5)])
        for texts, word in (((good, blocks), "block"), ((good, pointers), "pointer"), ((pointers, blocks), "pointer"), ((blocks, pointers), "block"),
                            ((good, good, good, both), "block"), ((BARRED, pointers), "pointer")):
            self.assertEqual(self.raised(TooMany, texts, TALL, late=9), word)
        # The old book is not looked at.
        self.assertEqual(best_plan(Book([Leaf((k,), ("x",), ()) for k in range(1, 14)]), (good,), TALL)[0], ("recast",))

    def test_late(self):
        for late in (-1, 4, True, False, None, "1"):
            with self.subTest(late):
                self.assertEqual(self.raised(BadPrice, (lettered("abc"),), TALL, late=late), "late")
        with self.assertRaises(BadPrice) as caught:
            plan_price(OLD, (lettered("abc"),), TALL, "no plan", late=4)
        self.assertIsInstance(caught.exception, BadForm)
        for late in range(4):
            self.assertEqual(best_plan(OLD, (lettered("abc"),), TALL, late=late)[0], best_plan(OLD, (lettered("abc"),), TALL)[0])

    def test_no_plan(self):
        for texts in ((BARRED,), (lettered("abc"), BARRED), (BARRED,) * 4):
            self.assertRaises(NoBook, best_plan, OLD, texts, TALL)
        # Who may not wait must send a book of each text.
        self.assertRaises(NoBook, best_plan, OLD, (BARRED, lettered("abc")), TALL, late=0)
        self.assertEqual(best_plan(OLD, (BARRED, lettered("abc")), TALL, late=1)[0][0], "wait")


class BestPlanTest(unittest.TestCase):
    def test_told(self):
        for letters, late, words, price in ((("xbcdef", "abcdef"), 3, ("wait", "send"), 0), (("xbcdef", "abcdef"), 0, ("send", "send"), 2),
                                            (("abcdef", "abcdef"), 3, ("send", "send"), 0), (("uvwxyz",), 3, ("recast",), 3),
                                            (("xbcdef", "xycdef", "xyzdef", "abcdef"), 3, ("wait", "wait", "wait", "send"), 0),
                                            (("xbcdef", "xycdef", "xyzdef", "abcdef"), 2, ("wait", "wait", "send", "send"), None)):
            texts = [lettered(told) for told in letters]
            told = best_plan(OLD, texts, TALL, late=late)
            if price is not None:
                self.assertEqual(told, (words, price))
            self.assertEqual(plan_price(OLD, texts, TALL, told[0], late=late)[0], told[1])

    def test_of_equal_prices_the_least_words(self):
        # A recast of a book of which all must be sent costs as much as a renewal.
        self.assertEqual(best_plan(Book(()), (lettered("abc"),), TALL), (("recast",), 2))
        self.assertEqual(best_plan(OLD, (lettered("abcdef"),) * 3, TALL), (("send",) * 3, 0))
        empty = Text((("contents", "none"),))
        self.assertEqual(best_plan(OLD, (empty,) * 4, TALL), (("recast",) * 4, 0))

    def test_tried_against_all(self):
        random = Random(131)
        found = {}
        for text in random_texts(132, 60, (2, 3, 5), (0, 1, 2, 3)):
            form = random.choice(SMALL)
            try:
                old = fresh_book(text, form)
            except NoBook:
                old = Book(())
            texts = []
            for _ in range(random.randint(1, 4)):
                text = random.choice((text, random_edit(random, text), random_edit(random, random_edit(random, text)), texts[0] if texts else text))
                texts.append(text)
            late = random.randint(0, 3)
            plans = []
            for words in product(WORDS, repeat=len(texts)):
                told = tried(old, texts, form, words, late)
                self.assertEqual(plan_price(old, texts, form, words, late=late), told)
                if told is not None:
                    plans.append((told[0], words))
            if not plans:
                self.assertRaises(NoBook, best_plan, old, texts, form, late=late)
                continue
            price, words = min(plans)
            self.assertEqual(best_plan(old, texts, form, late=late), (words, price))
            found[words] = True
            # It is no worse than always sending, and than recasting the last edition.
            always = tried(old, texts, form, ("send",) * len(texts), late)
            self.assertTrue(always is None or price <= always[0])
            if late >= len(texts) - 1:
                last = tried(old, texts, form, ("wait",) * (len(texts) - 1) + ("recast",), late)
                self.assertTrue(last is None or price <= last[0])
        self.assertGreater(len(found), 8)

    def test_time(self):
        # Pointers of one paragraph that can have very many widths together, in a text of twelve blocks.
        items = ("office", ("see", "b"), "sum", ("span", "b", "d"), "if", ("span", "a", "b"), "fee", ("see", "d"), "desk", "pays")
        blocks = [para(name, *LONG[:9]) for name in "abcdefghij"]
        blocks[2] = para("c", *items)
        old = fresh_book(Text([*blocks, ("index", "words", ("desk", "fee", "sum"))]), Format(30, 4))
        texts = []
        for k in range(4):
            blocks[k + 3] = para("defg"[k], "desk", *LONG[:k + 4])
            texts.append(Text([*blocks, ("index", "words", ("desk", "fee", "sum"))]))
        began = perf_counter()
        words, price = best_plan(old, texts, Format(30, 4))
        self.assertLess(perf_counter() - began, 10)
        self.assertEqual(plan_price(old, texts, Format(30, 4), words)[0], price)

    def test_what_is_passed_stays(self):
        texts = [setting(), edited(setting(), ("put", 2, para("new", "x")))]
        kept = list(texts)
        self.assertEqual(best_plan(setting_book(), texts, FORM), best_plan(setting_book(), tuple(kept), FORM))
        self.assertEqual(texts, kept)


if __name__ == "__main__":
    unittest.main()
