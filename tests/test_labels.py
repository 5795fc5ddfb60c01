import unittest

from afterleaves.errors import BadForm, BadLabel, BadOrder, NoRoom, NotThere
from afterleaves.labels import between, neighbours, read_label, read_page, write_label, write_page
from tests.samples import aslists

NO_LABELS = ((), (0,), (7, 0), (7, 1, 0), (1, 2, 3, 4), (100,), (1, 100), (-1,), (-1, 1), (True,), (7, True), (7.0,),
             ("7",), "7", 7, ((7,),), (None,), {7: 7})
LABELS = [(1,), (7,), (8,), (99,), (0, 1), (7, 1), (7, 2), (7, 99), (8, 1), (99, 99), (0, 0, 1), (0, 0, 99), (0, 1, 1),
          (7, 0, 1), (7, 0, 2), (7, 0, 99), (7, 1, 1), (7, 99, 99), (99, 99, 98), (99, 99, 99)]
SHORT = [(a,) for a in range(1, 100)]
MIDDLE = [(a, b) for a in range(100) for b in range(1, 100)]


def lies(label, low, high):
    return (low is None or low < label) and (high is None or label < high)


def long_between(low, high):
    """The least label of three integers between two, by trying those that may be it."""
    begin = low or (0, 0, 0)
    for a in range(begin[0], min(begin[0] + 2, 100)):
        for b in range(100):
            for c in range(1, 100):
                if lies((a, b, c), low, high):
                    return (a, b, c)
    return None


def told_between(low, high):
    for labels in (SHORT, MIDDLE):
        for label in labels:
            if lies(label, low, high):
                return label
    return long_between(low, high)


class BetweenTest(unittest.TestCase):
    def test_examples(self):
        self.assertEqual(between((7,), (8,)), (7, 1))
        self.assertEqual(between((7,), None), (8,))
        self.assertEqual(between(None, (1,)), (0, 1))
        self.assertEqual(between((7,), (7, 1)), (7, 0, 1))

    def test_open_bounds(self):
        self.assertEqual(between(None, None), (1,))
        self.assertEqual(between((99,), None), (99, 1))
        self.assertEqual(between((99, 99), None), (99, 99, 1))
        self.assertEqual(between(None, (0, 1)), (0, 0, 1))
        self.assertEqual(between((98,), None), (99,))

    def test_short_labels_go_ahead(self):
        self.assertEqual(between((7, 5), (9,)), (8,))
        self.assertEqual(between((7, 5, 3), (8,)), (7, 6))
        self.assertEqual(between((7, 99, 99), (8, 3)), (8,))
        self.assertEqual(between((7, 99), (8,)), (7, 99, 1))

    def test_against_all_labels(self):
        for low in [None, *LABELS]:
            for high in [None, *LABELS]:
                with self.subTest(low=low, high=high):
                    told = told_between(low, high)
                    if told is None:
                        with self.assertRaises(NoRoom):
                            between(low, high)
                    else:
                        self.assertEqual(between(low, high), told)

    def test_no_room(self):
        for low, high in (((7,), (7, 0, 1)), ((99, 99, 99), None), (None, (0, 0, 1)), ((7, 0, 1), (7, 0, 2)),
                          ((7,), (7,)), ((8,), (7,)), ((7, 0, 99), (7, 1)), ((7, 99, 99), (8,))):
            with self.subTest(low=low, high=high), self.assertRaises(NoRoom):
                between(low, high)

    def test_bad_labels(self):
        for thing in NO_LABELS:
            for low, high in ((thing, None), (None, thing), ((7,), thing), (thing, (0,))):
                with self.subTest(low=low, high=high), self.assertRaises(BadLabel) as caught:
                    between(low, high)
                self.assertEqual(caught.exception.label, thing)
                self.assertIsInstance(caught.exception, BadForm)
                self.assertNotIsInstance(caught.exception, NotThere)

    def test_lists(self):
        low, high = [7], [7, 1]
        self.assertEqual(between(low, high), (7, 0, 1))
        self.assertIsInstance(between(low, high), tuple)
        self.assertEqual((low, high), ([7], [7, 1]))


class WritingTest(unittest.TestCase):
    def test_labels(self):
        for label, word in (((7,), "7"), ((7, 0, 1), "7.0.1"), ((7, 1), "7.1"), ((0, 0, 1), "0.0.1"),
                            ((99, 99, 99), "99.99.99"), ((10, 20), "10.20")):
            self.assertEqual(write_label(label), word)
            self.assertEqual(write_label(list(label)), word)
            self.assertEqual(read_label(word), label)
            self.assertIsInstance(read_label(word), tuple)

    def test_pages(self):
        for page, word in ((((7,), 0), "7a"), (((7, 1), 1), "7.1b"), (((0, 0, 1), 0), "0.0.1a")):
            self.assertEqual(write_page(page), word)
            self.assertEqual(write_page(aslists(page)), word)
            self.assertEqual(read_page(word), page)

    def test_bad_labels_are_not_written(self):
        for thing in (*NO_LABELS, None):
            with self.subTest(thing), self.assertRaises(BadLabel) as caught:
                write_label(thing)
            self.assertEqual(caught.exception.label, thing)
            with self.subTest(thing), self.assertRaises(BadLabel) as caught:
                write_page((thing, 1))
            self.assertEqual(caught.exception.label, thing)

    def test_no_labels(self):
        for word in ("", "0", "7.0", "07", "7.01", "00", "7.00.1", "100", "1.100", "1.2.3.4", "+7", "-7", "7.", ".7", "7..1",
                     " 7", "7 ", "a", "7a", "7,1", "1" * 1000, "7.1.0", "007"):
            with self.subTest(word):
                self.assertIsNone(read_label(word))

    def test_no_pages(self):
        for word in ("", "a", "b", "7", "7c", "7A", "7ab", "07a", "0a", "7.0b", "7 a", "7.a", "a7", "7.1", "7a-7b", "100a"):
            with self.subTest(word):
                self.assertIsNone(read_page(word))

    def test_zero_may_stand_ahead_of_the_last_integer(self):
        self.assertEqual(read_label("0.1"), (0, 1))
        self.assertEqual(read_page("7.0.1a"), ((7, 0, 1), 0))


class NeighboursTest(unittest.TestCase):
    def test_neighbours(self):
        self.assertEqual(neighbours(()), ())
        self.assertEqual(neighbours(((7,),)), ())
        self.assertEqual(neighbours(((7,), (7, 1), (8,), (10,))), ((7, 0, 1), (7, 2), (9,)))

    def test_lists(self):
        labels = [[7], [8]]
        self.assertEqual(neighbours(labels), ((7, 1),))
        self.assertEqual(labels, [[7], [8]])

    def test_bad_labels_go_ahead(self):
        for thing in (*NO_LABELS, None):
            with self.subTest(thing), self.assertRaises(BadLabel) as caught:
                neighbours(((8,), (7,), thing, (0,)))
            self.assertEqual(caught.exception.label, thing)

    def test_order_goes_ahead_of_room(self):
        with self.assertRaises(BadOrder) as caught:
            neighbours(((7,), (7, 0, 1), (9,), (8,), (6,)))
        self.assertEqual(caught.exception.place, 3)
        self.assertIsInstance(caught.exception, BadForm)

    def test_equal_labels_are_not_ascending(self):
        with self.assertRaises(BadOrder) as caught:
            neighbours(((7,), (7,)))
        self.assertEqual(caught.exception.place, 1)

    def test_no_room(self):
        with self.assertRaises(NoRoom):
            neighbours(((6,), (7,), (7, 0, 1)))


if __name__ == "__main__":
    unittest.main()
