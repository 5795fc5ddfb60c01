import unittest

from afterleaves.edittext import read_edit, write_edit
from afterleaves.errors import BadEdit, BadForm, BadLine
from tests.samples import EXAMPLE, EXAMPLE_BLOCKS, aslists

PAIRS = tuple([(("put", k, block), f"put {k} {line}") for k, (block, line) in enumerate(zip(EXAMPLE_BLOCKS, EXAMPLE))]
              + [(("swap", "abcdefgh", block), f"swap abcdefgh {line}") for block, line in zip(EXAMPLE_BLOCKS, EXAMPLE)]
              + [(("put", 24, ("contents", "a")), "put 24 contents a"), (("drop", "a"), "drop a"),
                 (("move", "a", 0), "move a 0"), (("move", "abcdefgh", 24), "move abcdefgh 24")])

# Each line with the word at which it is bad.
BAD_LINES = (
    ("", 0), (" ", 0), ("turn a", 0), ("Put 0 contents a", 0), ("head a 1 w", 0), (" drop a", 0),
    ("put", 1), ("drop", 1), ("swap", 1), ("move", 1), ("put ", 1), ("put -1 contents a", 1), ("put 25 contents a", 1),
    ("put 00 contents a", 1), ("put 01 contents a", 1), ("put +1 contents a", 1), ("put a contents a", 1),
    ("put  0 contents a", 1), ("put 100 contents a", 1), ("drop A", 1), ("drop 0", 1), ("swap abcdefghi contents a", 1),
    ("move 0 a", 1), ("move", 1), ("drop  a", 1),
    ("put 0", 2), ("put 0 ", 2), ("put 0 turn", 2), ("put 0 drop a", 2), ("drop a ", 2), ("drop a b", 2), ("swap a", 2),
    ("swap a b", 2), ("swap a swap", 2), ("move a", 2), ("move a b", 2), ("move a 25", 2), ("move a -1", 2), ("move a 07", 2),
    ("move a ", 2),
    ("put 0 head", 3), ("put 0 head A", 3), ("swap a contents", 3), ("move a 0 ", 3), ("move a 0 0", 3),
    ("put 0 head a 3 w", 4), ("swap a fig a 0", 4), ("put 0 contents a b", 4), ("put 0 contents a ", 4),
    ("put 0 head a 1", 5), ("swap a para a w see:", 5), ("put 0 index a b a", 5), ("put 0 para a" + " w" * 17, 20),
)


class EditTextTest(unittest.TestCase):
    def test_writing(self):
        for edit, line in PAIRS:
            with self.subTest(line):
                self.assertEqual(write_edit(edit), line)
                listed = aslists(edit)
                self.assertEqual(write_edit(listed), line)
                self.assertEqual(listed, aslists(edit))

    def test_reading(self):
        for edit, line in PAIRS:
            with self.subTest(line):
                self.assertEqual(read_edit(line), edit)

    def test_bad_lines(self):
        for line, word in BAD_LINES:
            with self.subTest(line), self.assertRaises(BadLine) as caught:
                read_edit(line)
            self.assertEqual((caught.exception.line, caught.exception.word), (0, word))
            self.assertIsInstance(caught.exception, BadForm)

    def test_a_line_that_is_no_string(self):
        for line in (None, 5, ("drop", "a"), b"drop a"):
            with self.assertRaises(BadLine) as caught:
                read_edit(line)
            self.assertEqual((caught.exception.line, caught.exception.word), (0, 0))

    def test_no_edit_is_not_written(self):
        for edit in (None, ("drop", "A"), ("put", True, ("contents", "a"))):
            with self.assertRaises(BadEdit):
                write_edit(edit)


if __name__ == "__main__":
    unittest.main()
