import unittest

from afterleaves.errors import (
    AfterError, Backward, BadBlock, BadForm, BadOrder, BadText, Lacking, NotThere, TooMany, Twice, Unfit, Unknown)
from afterleaves.texts import Text
from tests.samples import EXAMPLE_BLOCKS, aslists, example, fig, head, names, para

CONTENTS = ("contents", "list")
INDEX = ("index", "words", ("a",))

GOOD_BLOCKS = (
    head("a", 1), head("a", 2), head("abcdefgh"), head("a", 1, ("w",) * 6), head("a", 1, ("abcdefgh",)),
    para("a", *["w"] * 16), para("a", "w"), para("a", ("note", ("w",))), para("a", ("note", ("w",) * 4)),
    fig("a", 1), fig("a", 6), fig("a", 1, ("w",) * 4), fig("a", 1, ()), ("contents", "a"), ("index", "a", ("w",)),
    ("index", "a", ("a", "b", "c", "d", "e", "f", "g", "h")), ("index", "a", ("a", "aa", "ab", "b")),
)
BAD_WORDS = ("", "abcdefghi", "A", "a1", "a b", "a-", None, 1, ("a",), b"a", "\u00e9", "a\n")
BAD_ITEMS = (*BAD_WORDS, (), ("see",), ("see", "A"), ("see", "a", "b"), ("see", None), ("see", ("a",)), ("span", "a"),
             ("span", "a", "B"), ("span", "A", "b"), ("span", "a", "b", "c"), ("span", ("a", "b")), ("next", "contents"),
             ("next", "index"), ("next", "a"), ("next", None), ("next", ("head",)), ("next", "head", "head"),
             ("note", ()), ("note", ("w",) * 5), ("note", "w"), ("note", ("W",)), ("note", "w", "w"), ("note", None),
             ("ref", "a"), ("ref", "head"), ("head", "fig"), ("next", ["head"]), ("ref", "a", "b"), (None, "a"), ("note",), ({}, "a"), ("span", "a", None))
BAD_BLOCKS = (
    None, 5, "head", "para", (), [], ("head",), ("note", "a"), ("Head", "a", 1, ("w",)), (None, "a", 1, ("w",)),
    ([], "a"), ("head", "a", 1), ("head", "a", 1, ("w",), ()), ("head", "a", 0, ("w",)), ("head", "a", 3, ("w",)),
    ("head", "a", True, ("w",)), ("head", "a", "1", ("w",)), ("head", "a", 1.0, ("w",)), ("head", "a", None, ("w",)),
    ("head", "a", 1, ()), ("head", "a", 1, ("w",) * 7), ("head", "a", 1, "w"), ("head", "a", 1, None),
    ("head", "a", 1, (("see", "a"),)), ("para", "a"), ("para", "a", ()), ("para", "a", ("w",) * 17), ("para", "a", "w"),
    ("para", "a", None), ("para", "a", ("w",), ("w",)), ("fig", "a", 1), ("fig", "a", 0, ()), ("fig", "a", 7, ()),
    ("fig", "a", True, ()), ("fig", "a", "1", ()), ("fig", "a", 1, ("w",) * 5), ("fig", "a", 1, ""), ("fig", "a", 1, None),
    ("fig", "a", 1, (), ()), ("contents",), ("contents", "a", ()), ("contents", "a", ("w",)), ("index", "a"),
    ("index", "a", ()), ("index", "a", ("a", "b", "c", "d", "e", "f", "g", "h", "i")), ("index", "a", ("b", "a")),
    ("index", "a", ("a", "a")), ("index", "a", "a"), ("index", "a", ("a",), ()), ("index", "a", ("a", ("b",))),
)
BLOCKS_WITH = (
    lambda word: head(word), lambda word: head("a", 1, ("w", word)), lambda word: para(word, "w"),
    lambda word: fig(word), lambda word: fig("a", 1, ("w", word)), lambda word: ("contents", word),
    lambda word: ("index", word, ("w",)), lambda word: ("index", "a", (word,)),
)


class JudgingTest(unittest.TestCase):
    def raised(self, kind, blocks, **told):
        with self.assertRaises(AfterError) as caught:
            Text(blocks)
        self.assertIs(type(caught.exception), kind)
        for name, value in told.items():
            self.assertEqual(getattr(caught.exception, name), value)
        return caught.exception

    def test_no_text(self):
        for blocks in ((), [], None, "abc", 5, {}, example()):
            with self.subTest(blocks):
                error = self.raised(BadText, blocks)
                self.assertIsInstance(error, BadForm)

    def test_good_blocks(self):
        for block in GOOD_BLOCKS:
            with self.subTest(block):
                self.assertEqual(Text((block,)).blocks, (block,))

    def test_bad_blocks(self):
        for block in BAD_BLOCKS:
            with self.subTest(block):
                error = self.raised(BadBlock, (head("x"), block, None), block=1)
                self.assertIsInstance(error, BadForm)
                self.assertNotIsInstance(error, NotThere)

    def test_bad_names_and_words(self):
        for word in BAD_WORDS:
            for build in BLOCKS_WITH:
                with self.subTest(build(word)):
                    self.raised(BadBlock, (build(word),), block=0)

    def test_bad_items(self):
        for item in BAD_ITEMS:
            with self.subTest(item):
                self.raised(BadBlock, (head("x"), head("y"), para("a", "w", item)), block=2)

    def test_the_number_of_blocks(self):
        blocks = tuple([head(name) for name in names(24)])
        self.assertEqual(len(Text(blocks)), 24)
        error = self.raised(TooMany, (*blocks, None), word="block")
        self.assertNotIsInstance(error, (BadForm, NotThere))

    def test_twice(self):
        error = self.raised(Twice, (head("a"), head("b"), para("b"), para("a"), CONTENTS, CONTENTS), name="b")
        self.assertNotIsInstance(error, (BadForm, NotThere))
        self.raised(BadBlock, (head("a"), head("a"), None), block=2)

    def test_order(self):
        other = ("contents", "other")
        second = ("index", "second", ("b",))
        for blocks, place in (((CONTENTS, head("a")), 1), ((CONTENTS, para("a")), 1), ((CONTENTS, fig("a")), 1),
                              ((INDEX, head("a")), 1), ((INDEX, para("a")), 1), ((INDEX, fig("a")), 1),
                              ((INDEX, CONTENTS), 1), ((head("a"), CONTENTS, other), 2), ((CONTENTS, INDEX, second), 2),
                              ((CONTENTS, INDEX, other), 2), ((CONTENTS, INDEX, fig("a")), 2),
                              ((head("a"), INDEX, second, head("b")), 2)):
            with self.subTest(blocks):
                error = self.raised(BadOrder, blocks, place=place)
                self.assertIsInstance(error, BadForm)

    def test_twice_goes_ahead_of_order(self):
        self.raised(Twice, (CONTENTS, para("list")), name="list")

    def test_lists_may_stand_alone(self):
        for blocks in ((CONTENTS,), (INDEX,), (CONTENTS, INDEX), (para("a"), INDEX)):
            self.assertEqual(Text(blocks).blocks, blocks)

    def test_the_number_of_pointers(self):
        eight = [("see", "b")] * 4 + [("span", "a", "b"), ("note", ("w",))] * 4
        four = [("next", "head")] * 2 + [("see", "nobody")] * 2
        text = (para("a", *eight), para("b", *four[:2], "w", ("see", "c"), ("see", "c")), head("c"))
        self.assertEqual(len(Text(text).pointers()), 12)
        error = self.raised(TooMany, (para("a", *eight), para("b", *four, ("see", "c")), head("c")), word="pointer")
        self.assertNotIsInstance(error, BadForm)
        self.raised(BadOrder, (para("a", *eight), para("b", *four, ("see", "c")), CONTENTS, head("c")), place=3)

    def test_unknown(self):
        for item, name in ((("see", "no"), "no"), (("span", "no", "words"), "no"), (("span", "a", "no"), "no")):
            error = self.raised(Unknown, (para("a", "w", item), CONTENTS, INDEX), name=name)
            self.assertIsInstance(error, NotThere)
            self.assertNotIsInstance(error, BadForm)

    def test_unfit(self):
        for item, name in ((("see", "list"), "list"), (("see", "words"), "words"), (("span", "list", "no"), "list"),
                           (("span", "a", "words"), "words"), (("span", "words", "list"), "words")):
            error = self.raised(Unfit, (para("a", "w", item), CONTENTS, INDEX), name=name)
            self.assertIsInstance(error, NotThere)

    def test_backward(self):
        error = self.raised(Backward, (head("a"), para("b", "w", "w", ("span", "c", "a")), fig("c")), block=1, item=2)
        self.assertIsInstance(error, NotThere)
        self.assertEqual(Text((para("b", ("span", "b", "b")),)).targets(0, 0), (0, 0))

    def test_lacking(self):
        for kind in ("head", "para", "fig"):
            blocks = (head("a"), para("b"), fig("c"), para("d", "w", ("next", kind)), CONTENTS)
            error = self.raised(Lacking, blocks, block=3, item=1)
            self.assertIsInstance(error, NotThere)

    def test_pointers_are_judged_in_order(self):
        bad = {Unknown: ("see", "no"), Unfit: ("see", "list"), Backward: ("span", "b", "a"), Lacking: ("next", "fig")}
        for kind, item in bad.items():
            for other in bad.values():
                self.raised(kind, (para("a", "w", item, other), para("b", other), CONTENTS))
                self.raised(kind, (para("a", "w", item), para("b", other), CONTENTS))


class NumbersTest(unittest.TestCase):
    def numbers(self, signs):
        kinds = {"C": lambda name: head(name, 1), "s": lambda name: head(name, 2), "p": para, "f": fig}
        return Text([kinds[sign](name) for sign, name in zip(signs, names(len(signs)))]).numbers

    def test_the_example(self):
        self.assertEqual(example().numbers, ("1", "1p1", "1f1", "1p2", "2", "", ""))

    def test_all_kinds_begin_anew_with_a_chapter(self):
        self.assertEqual(self.numbers("CspfspfCpfs"),
                         ("1", "1.1", "1p1", "1f1", "1.2", "1p2", "1f2", "2", "2p1", "2f1", "2.1"))

    def test_ahead_of_the_first_chapter(self):
        self.assertEqual(self.numbers("psfspfCps"), ("0p1", "0.1", "0f1", "0.2", "0p2", "0f2", "1", "1p1", "1.1"))

    def test_sections_do_not_begin_other_counts_anew(self):
        self.assertEqual(self.numbers("Cpspfsf"), ("1", "1p1", "1.1", "1p2", "1f1", "1.2", "1f2"))

    def test_many(self):
        self.assertEqual(self.numbers("C" + "p" * 12)[-1], "1p12")
        self.assertEqual(self.numbers("C" * 11 + "s")[-2:], ("11", "11.1"))


class AskingTest(unittest.TestCase):
    def test_blocks_are_kept(self):
        self.assertEqual(example().blocks, EXAMPLE_BLOCKS)

    def test_by_name(self):
        text = example()
        self.assertTrue("late" in text)
        for name in ("no", "", None, 3, ["late"]):
            self.assertFalse(name in text)
        self.assertEqual(text["plan"], EXAMPLE_BLOCKS[2])
        self.assertEqual(text.spot("fees"), 0)
        self.assertEqual(text.spot("words"), 6)
        for ask in (lambda: text["no"], lambda: text.spot("no")):
            with self.assertRaises(Unknown) as caught:
                ask()
            self.assertEqual(caught.exception.name, "no")

    def test_size_and_iteration(self):
        self.assertEqual(len(example()), 7)
        self.assertEqual(list(example()), list(EXAMPLE_BLOCKS))

    def test_equality(self):
        self.assertTrue(example() == example())
        self.assertTrue(example() == Text(aslists(EXAMPLE_BLOCKS)))
        for other in (Text(EXAMPLE_BLOCKS[:5]), Text((*EXAMPLE_BLOCKS[:6], ("index", "words", ("desk",)))),
                      EXAMPLE_BLOCKS, None):
            self.assertFalse(example() == other)
            self.assertTrue(example() != other)

    def test_pointers(self):
        self.assertEqual(example().pointers(), ((1, 5), (3, 4)))
        self.assertEqual(Text((head("a"), CONTENTS)).pointers(), ())
        text = Text((para("a", ("note", ("w",)), ("next", "para"), "w", ("span", "a", "b"), ("see", "a")), para("b")))
        self.assertEqual(text.pointers(), ((0, 1), (0, 3), (0, 4)))

    def test_targets(self):
        self.assertEqual(example().targets(1, 5), (3,))
        self.assertEqual(example().targets(3, 4), (4,))
        pointing = para("b", ("next", "para"), ("next", "head"), ("next", "fig"), ("span", "a", "d"), ("see", "a"),
                        ("span", "c", "c"), ("see", "b"))
        text = Text((para("a"), pointing, fig("c"), para("d"), head("e", 2), fig("f"), para("g"), head("h")))
        self.assertEqual([text.targets(1, item) for item in range(7)], [(3,), (4,), (2,), (0, 3), (0,), (2, 2), (1,)])

    def test_targets_that_are_not_there(self):
        text = example()
        for k in (-1, 7, 100, -7):
            with self.assertRaises(Unknown) as caught:
                text.targets(k, 5)
            self.assertEqual(caught.exception.name, k)
        for k, item in ((1, 4), (1, 6), (1, 7), (1, -2), (0, 0), (5, 0), (3, -1), (6, 5)):
            with self.assertRaises(Unknown) as caught:
                text.targets(k, item)
            self.assertEqual(caught.exception.name, item)


class ListsTest(unittest.TestCase):
    def test_lists_are_kept_as_tuples(self):
        blocks = aslists(EXAMPLE_BLOCKS)
        text = Text(blocks)
        self.assertEqual(text.blocks, EXAMPLE_BLOCKS)
        self.assertEqual(blocks, aslists(EXAMPLE_BLOCKS))
        blocks[1][2][5][1] = "fees"
        blocks.pop()
        self.assertEqual(text.blocks, EXAMPLE_BLOCKS)
        self.assertIsInstance(text.blocks, tuple)

    def test_lists_of_bad_things_stay(self):
        blocks = aslists((para("a", ("see", "no")),))
        with self.assertRaises(Unknown):
            Text(blocks)
        self.assertEqual(blocks, [["para", "a", [["see", "no"]]]])

    def test_texts_stay_when_others_are_made(self):
        one = example()
        before = (one.blocks, one.numbers, one.pointers(), one.targets(1, 5))
        Text((head("late"), para("x", ("see", "late"))))
        for _ in range(2):
            self.assertEqual((one.blocks, one.numbers, one.pointers(), one.targets(1, 5)), before)


if __name__ == "__main__":
    unittest.main()
