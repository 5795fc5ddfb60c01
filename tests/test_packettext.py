import unittest
from random import Random

from afterleaves.errors import BadLine, BadStretch, TooMany
from afterleaves.leaves import Leaf
from afterleaves.packets import Packet
from afterleaves.packettext import read_packet, write_packet
from tests.archives import random_archive

LINES = ("clear - 2", "clear 2 7.0.1", "leaf 3 1 0", "x", "leaf 7 2 1", "- 1/here", "* y", ":", "clear 8 -")
PACKET = Packet(((None, (2,), ()), ((2,), (7, 0, 1), (Leaf((3,), ("x",), ()), Leaf((7,), ("- 1/here", "* y"), (":",)))), ((8,), None, ())))
HEAD = ("clear - -", "leaf 1 1 1")


class PacketTextTest(unittest.TestCase):
    def bad(self, lines):
        with self.assertRaises(BadLine) as caught:
            read_packet(lines)
        return (caught.exception.line, caught.exception.word)

    def test_lines(self):
        self.assertEqual(write_packet(PACKET), LINES)
        self.assertEqual(read_packet(LINES), PACKET)
        self.assertEqual(read_packet(list(LINES)), PACKET)
        self.assertEqual(write_packet(PACKET), LINES)

    def test_no_lines(self):
        self.assertEqual(read_packet(()), Packet(()))
        self.assertEqual(write_packet(Packet(())), ())

    def test_there_and_back(self):
        random = Random(2)
        for _ in range(20):
            archive = random_archive(random)
            for k in range(1, len(archive) + 1):
                packet = archive.packet(k)
                self.assertEqual(read_packet(write_packet(packet)), packet)
        wide = Leaf((99, 0, 99), (" ".join(["x"] * 30), "y" * 20) * 6, (" ".join(["z" * 11] * 10) + " ", "w")[1:])
        packet = Packet((((99,), None, (wide,)),))
        self.assertEqual(read_packet(write_packet(packet)), packet)

    def test_bad_words_of_stretches(self):
        for line, word in (("", 0), ("clea - -", 0), ("clear", 1), ("clear -", 2), ("clear - - -", 3), ("clear - - ", 3), ("clear  - -", 1),
                           ("clear 01 -", 1), ("clear 0 -", 1), ("clear 1.0 -", 1), ("clear 1.1.1.1 -", 1), ("clear 100 -", 1), ("clear 1a -", 1),
                           ("clear -- -", 1), ("clear None -", 1), ("clear - +", 2), ("clear - 1.", 2), (" clear - -", 0), (None, 0), (("clear", "-", "-"), 0)):
            for ahead in ((), LINES, LINES[:2]):
                with self.subTest(line):
                    self.assertEqual(self.bad((*ahead, line, "worse")), (len(ahead), word))

    def test_bad_words_of_leaves(self):
        self.assertEqual(self.bad(("leaf 1 1 0", "x")), (0, 0))
        for line, word in (("leaf", 1), ("leaf -", 1), ("leaf 0 1 0", 1), ("leaf 1a 1 0", 1), ("leaf 1", 2), ("leaf 1 0 0", 2), ("leaf 1 13 0", 2),
                           ("leaf 1 01 0", 2), ("leaf 1 -1 0", 2), ("leaf 1 x 0", 2), ("leaf 1 12", 3), ("leaf 1 12 13", 3), ("leaf 1 1 00", 3),
                           ("leaf 1 1 ", 3), ("leaf 1 1 0 0", 4), ("leaf 1 1 0 ", 4), ("Leaf 1 1 0", 0), (7, 0)):
            with self.subTest(line):
                self.assertEqual(self.bad(("clear - -", line, "x")), (1, word))
                self.assertEqual(self.bad(("clear - -", "leaf 1 1 0", "x", line, "x")), (3, word))

    def test_bad_rows(self):
        many = " ".join(["x"] * 30)
        for row, word in (("", 0), (" x", 0), ("x ", 1), ("x  y", 1), ("x y" + "z" * 20, 1), ("x" * 21, 0), (many + " x", 30), (many + " ", 30), (None, 0), (5, 0),
                          (["x"], 0), (" ".join(["abcdefghijk"] * 10) + " x", 0), (" ".join(["abcdefghijk"] * 10) + " " + "y" * 21, 10),
                          (" ".join(["abcd"] * 31), 30), (" ".join(["abcd"] * 30) + " ", 30), (" ".join(["abcd"] * 29 + [""] + ["y"]), 29)):
            with self.subTest(row):
                self.assertEqual(self.bad((*HEAD, row, "x")), (2, word))
                self.assertEqual(self.bad((*HEAD, "x", row)), (3, word))
        for row in (many, " ".join(["x" * 20] * 5 + ["y" * 15]), "clear - -", "leaf 1 1 1", "*", "x" * 20):
            self.assertEqual(read_packet((*HEAD, row, row)).leaves[0].front, (row,))

    def test_lines_that_end_too_early(self):
        for count in (2, 3, 4, 5, 6):
            whole = ("clear - -", "leaf 1 3 2", "a", "b", "c", "d", "e")
            self.assertEqual(self.bad(whole[:count]), (count, 0))
        self.assertEqual(self.bad((*LINES, "leaf 9 1 0")), (len(LINES) + 1, 0))

    def test_errors_of_the_packet(self):
        for lines, place in ((("clear 2 2",), 0), (("clear 1 3", "clear 2 4"), 1), (("clear 1 3", "leaf 3 1 0", "x"), 0), (("clear - -", "clear - -"), 1)):
            with self.assertRaises(BadStretch) as caught:
                read_packet(lines)
            self.assertEqual(caught.exception.place, place)
        stretches = tuple(f"clear {k} {k + 1}" for k in range(1, 14))
        self.assertEqual(len(read_packet(stretches[:12]).stretches), 12)
        self.assertRaises(TooMany, read_packet, stretches)
        leaves = [line for k in range(1, 42) for line in (f"leaf {k} 1 0", "x")]
        self.assertEqual(len(read_packet(("clear - -", *leaves[:80]))), 40)
        self.assertRaises(TooMany, read_packet, ("clear - -", *leaves))
        # All lines are read ahead of what is judged of the packet.
        self.assertEqual(self.bad(("clear 2 2", *stretches, "clear 5 6 7")), (14, 3))


if __name__ == "__main__":
    unittest.main()
