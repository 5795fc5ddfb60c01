import unittest

from afterleaves.errors import BadForm, BadFormat
from afterleaves.formats import Format


class FormatTest(unittest.TestCase):
    def test_attributes(self):
        for width, height, near in ((20, 2, True), (60, 12, False), (33, 7, True)):
            form = Format(width, height, near)
            self.assertEqual((form.width, form.height, form.near), (width, height, near))
        self.assertIs(Format(20, 2).near, True)
        self.assertIs(Format(near=False, height=3, width=21).near, False)

    def bad(self, word, *arguments):
        with self.subTest(arguments), self.assertRaises(BadFormat) as caught:
            Format(*arguments)
        self.assertEqual(caught.exception.word, word)
        self.assertIsInstance(caught.exception, BadForm)

    def test_bad_widths(self):
        for width in (19, 61, 0, -20, True, None, "20", 20.0, (20,)):
            self.bad("width", width, 5)
            self.bad("width", width, 1, 3)

    def test_bad_heights(self):
        for height in (1, 13, 0, -2, True, None, "2", 2.0):
            self.bad("height", 20, height)
            self.bad("height", 60, height, None)

    def test_bad_near(self):
        for near in (1, 0, None, "yes", ()):
            self.bad("near", 20, 2, near)

    def test_equality(self):
        self.assertTrue(Format(20, 5) == Format(20, 5, True))
        for other in (Format(21, 5), Format(20, 6), Format(20, 5, False), None, (20, 5, True), "20"):
            self.assertFalse(Format(20, 5) == other)
            self.assertTrue(Format(20, 5) != other)


if __name__ == "__main__":
    unittest.main()
