import unittest

from afterleaves.errors import AfterError, BadForm, BadLine, BadOrder, NotThere, TooMany, Twice, Unknown
from afterleaves.textread import read_block, read_text
from afterleaves.texts import Text
from afterleaves.textwrite import write_block, write_text
from tests.samples import EXAMPLE, EXAMPLE_BLOCKS, aslists, example, fig, head, names, para

PAIRS = (
    (head("abcdefgh", 2, ("a", "b", "c", "d", "e", "f")), "head abcdefgh 2 a b c d e f"),
    (para("a", "see", "next"), "para a see next"),
    (para("a", ("see", "b"), ("span", "b", "c"), ("next", "fig"), ("note", ("w", "x", "y", "z"))),
     "para a see:b span:b:c next:fig note:w:x:y:z"),
    (para("a", *["w"] * 16), "para a" + " w" * 16),
    (fig("a", 6, ()), "fig a 6"),
    (fig("a", 1, ("w", "x", "y", "z")), "fig a 1 w x y z"),
    (("contents", "a"), "contents a"),
    (("index", "a", ("a", "aa", "b", "c", "d", "e", "f", "g")), "index a a aa b c d e f g"),
    (head("head", 1, ("head",)), "head head 1 head"),
)

# Each line with the word at which it is bad.
BAD_LINES = (
    ("", 0), (" ", 0), (" head a 1 w", 0), ("Head a 1 w", 0), ("heads a 1 w", 0), ("note", 0), ("head:a", 0),
    ("head", 1), ("para", 1), ("fig", 1), ("contents", 1), ("index", 1),
    ("head ", 1), ("head  a 1 w", 1), ("head A 1 w", 1), ("head abcdefghi 1 w", 1), ("contents 1", 1), ("para a1 w", 1),
    ("index see:a w", 1), ("fig a-b 1", 1),
    ("head a", 2), ("head a ", 2), ("head a 0 w", 2), ("head a 3 w", 2), ("head a 01 w", 2), ("head a +1 w", 2),
    ("head a -1 w", 2), ("head a w w", 2), ("head a  1 w", 2), ("head a 1.0 w", 2), ("head a 11 w", 2),
    ("head a 1", 3), ("head a 1 ", 3), ("head a 1 W", 3), ("head a 1 see:a", 3), ("head a 1  w", 3), ("head a 1 w ", 4),
    ("head a 1 a b c d e f g", 9), ("head a 1 a b c d e f ", 9), ("head a 1 a b c d e f G", 9), ("head a 1 a b .", 5),
    ("para a", 2), ("para a ", 2), ("para a w ", 3), ("para a w  w", 3), ("para a" + " w" * 17, 18),
    ("para a" + " w" * 16 + " ", 18), ("para a see:", 2), ("para a :a", 2), ("para a see:a:b", 2), ("para a see:A", 2),
    ("para a span:a", 2), ("para a span:a:b:c", 2), ("para a span:a:", 2), ("para a next:contents", 2), ("para a next:", 2),
    ("para a next:a", 2), ("para a next:head:head", 2), ("para a note:", 2), ("para a note:a:b:c:d:e", 2),
    ("para a note:a::b", 2), ("para a note:a:B", 2), ("para a ref:a", 2), ("para a w abcdefghi", 3), ("para a w 1", 3),
    ("para a w (*)", 3), ("para a w see", None), ("para a :", 2),
    ("fig a", 2), ("fig a 0", 2), ("fig a 7", 2), ("fig a 06", 2), ("fig a w", 2), ("fig a 1 ", 3), ("fig a 1 w W", 4),
    ("fig a 1 a b c d e", 7), ("fig a 1 a b c d ", 7), ("fig a 10", 2),
    ("contents a b", 2), ("contents a ", 2), ("contents a  ", 2),
    ("index a", 2), ("index a ", 2), ("index a b a", 3), ("index a b b", 3), ("index a a b ", 4),
    ("index a a b c d e f g h i", 10), ("index a a b c d e f g h a", 10), ("index a B", 2), ("index a b C", 3),
    ("index a ab a", 3), ("index a a b1", 3), ("index a a abcdefghi", 3), ("index a a c b", 4), ("index a a b.", 3),
    ("para a ref:head", 2), ("para a head:fig", 2), ("para a note", None), ("para a Next:fig", 2),
)


class WritingTest(unittest.TestCase):
    def test_the_example(self):
        self.assertEqual(write_text(example()), EXAMPLE)
        for block, line in zip(EXAMPLE_BLOCKS, EXAMPLE):
            self.assertEqual(write_block(block), line)

    def test_blocks(self):
        for block, line in PAIRS:
            with self.subTest(line):
                self.assertEqual(write_block(block), line)
                listed = aslists(block)
                self.assertEqual(write_block(listed), line)
                self.assertEqual(listed, aslists(block))


class ReadingTest(unittest.TestCase):
    def bad(self, lines, line, word):
        with self.subTest(lines), self.assertRaises(BadLine) as caught:
            read_text(lines)
        self.assertEqual((caught.exception.line, caught.exception.word), (line, word))
        self.assertIsInstance(caught.exception, BadForm)
        self.assertNotIsInstance(caught.exception, NotThere)

    def test_the_example(self):
        self.assertEqual(read_text(EXAMPLE), example())
        self.assertEqual(read_text(list(EXAMPLE)).blocks, EXAMPLE_BLOCKS)
        for block, line in zip(EXAMPLE_BLOCKS, EXAMPLE):
            self.assertEqual(read_block(line.split(" "), 0, 0), block)

    def test_blocks(self):
        for block, line in PAIRS:
            with self.subTest(line):
                words = ["on", "top", *line.split(" ")]
                self.assertEqual(read_block(words, 3, 2), block)
                self.assertEqual(read_block(tuple(words), 3, 2), block)
                self.assertEqual(words, ["on", "top", *line.split(" ")])

    def test_texts_that_were_written(self):
        blocks = [("para", "h", ("w", ("see", "a"), ("span", "a", "f"), ("next", "fig"))), head("a"), fig("f"),
                  ("contents", "c"), ("index", "i", ("a", "b"))]
        self.assertEqual(read_text(write_text(Text(blocks))), Text(blocks))

    def test_bad_words(self):
        for line, word in BAD_LINES:
            if word is None:
                self.assertEqual(len(read_text((line,))), 1)
                continue
            self.bad((line,), 0, word)
            self.bad(("contents a", "contents a", line, ""), 2, word)
            for first in (0, 1, 2):
                words = ["x"] * first + line.split(" ")
                with self.subTest(words), self.assertRaises(BadLine) as caught:
                    read_block(words, 17, first)
                self.assertEqual((caught.exception.line, caught.exception.word), (17, word + first))

    def test_a_line_that_is_no_string(self):
        for line in (None, 5, ("head", "a"), b"contents a", ["contents a"]):
            self.bad(("contents a", line), 1, 0)

    def test_no_line_at_all(self):
        self.bad((), 0, 0)
        self.bad([], 0, 0)

    def test_no_word_at_all(self):
        with self.assertRaises(BadLine) as caught:
            read_block(("put", "0"), 5, 2)
        self.assertEqual((caught.exception.line, caught.exception.word), (5, 2))

    def test_the_first_bad_line_is_told(self):
        self.bad(("contents a", "head", "", None), 1, 1)

    def test_lines_are_judged_ahead_of_the_text(self):
        self.bad(("contents a", "contents a", "para b see:no", "fig"), 3, 1)
        self.bad(("contents a",) * 30 + ("no",), 30, 0)

    def test_errors_of_the_text(self):
        for lines, kind in ((("contents a", "contents a"), Twice), (("contents a", "head b 1 w"), BadOrder),
                            (("para a see:no",), Unknown)):
            with self.assertRaises(AfterError) as caught:
                read_text(lines)
            self.assertIs(type(caught.exception), kind)
        with self.assertRaises(TooMany) as caught:
            read_text([f"fig {name} 1" for name in names(25)])
        self.assertEqual(caught.exception.word, "block")
        self.assertEqual(len(read_text([f"fig {name} 1" for name in names(24)])), 24)


if __name__ == "__main__":
    unittest.main()
