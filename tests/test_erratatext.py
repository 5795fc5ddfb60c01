import unittest

from afterleaves.errata import Errata
from afterleaves.erratatext import read_errata, write_errata
from afterleaves.errors import BadCorrection, BadLine, TooMany
from tests.samples import page

LINE = "on 7b 0 3 for 1p2/8a read 1p2/facing"
CORRECTION = (page(7, "b"), 0, 3, "1p2/8a", "1p2/facing")


class ErrataTextTest(unittest.TestCase):
    def test_the_example(self):
        self.assertEqual(read_errata((LINE,)).corrections, (CORRECTION,))
        self.assertEqual(write_errata(Errata((CORRECTION,))), (LINE,))
        self.assertEqual(read_errata([LINE]), Errata((CORRECTION,)))

    def test_no_lines(self):
        self.assertEqual(read_errata(()), Errata(()))
        self.assertEqual(write_errata(Errata(())), ())

    def test_there_and_back(self):
        errata = Errata((CORRECTION, (((7, 0, 1), 0), 11, 29, "a" * 20, "for"), (page(1), 0, 0, "read", "on"), CORRECTION))
        lines = write_errata(errata)
        self.assertEqual(lines[1:3], ("on 7.0.1a 11 29 for aaaaaaaaaaaaaaaaaaaa read for", "on 1a 0 0 for read read on"))
        self.assertEqual(read_errata(lines), errata)
        self.assertEqual(write_errata(errata), lines)

    def test_bad_words(self):
        for line, word in (("", 0), ("o 7b 0 3 for a read b", 0), ("on", 1), ("on 7 0 3 for a read b", 1), ("on 7c 0 3 for a read b", 1),
                           ("on 07b 0 3 for a read b", 1), ("on 0b 0 3 for a read b", 1), ("on  7b 0 3 for a read b", 1),
                           ("on 7b 12 3 for a read b", 2), ("on 7b 00 3 for a read b", 2), ("on 7b -1 3 for a read b", 2), ("on 7b x 3", 2),
                           ("on 7b 0 30 for a read b", 3), ("on 7b 0 03 for a read b", 3), ("on 7b 0", 3), ("on 7b 0 3 four a read b", 4),
                           ("on 7b 0 3 for", 5), ("on 7b 0 3 for  read b", 5), (f"on 7b 0 3 for {'a' * 21} read b", 5),
                           ("on 7b 0 3 for a b", 6), ("on 7b 0 3 for a", 6), ("on 7b 0 3 for a read", 7), ("on 7b 0 3 for a read ", 7),
                           (f"on 7b 0 3 for a read {'a' * 21}", 7), ("on 7b 0 3 for a read b c", 8), ("on 7b 0 3 for a read b ", 8),
                           (" on 7b 0 3 for a read b", 0), (None, 0), (5, 0), ((LINE,), 0)):
            for lines, spot in (((line,), 0), ((LINE, LINE, line, "worse"), 2)):
                with self.subTest(line), self.assertRaises(BadLine) as caught:
                    read_errata(lines)
                self.assertEqual((caught.exception.line, caught.exception.word), (spot, word))

    def test_errors_of_the_list(self):
        with self.assertRaises(BadCorrection) as caught:
            read_errata((LINE, "on 7b 0 3 for a read a"))
        self.assertEqual(caught.exception.place, 1)
        with self.assertRaises(TooMany) as caught:
            read_errata((LINE,) * 61)
        self.assertEqual(caught.exception.word, "correction")
        self.assertEqual(len(read_errata((LINE,) * 60)), 60)
        self.assertRaises(BadLine, read_errata, ("on 7b 0 3 for a read a",) * 61 + ("x",))


if __name__ == "__main__":
    unittest.main()
