import unittest
from itertools import combinations

from afterleaves.books import Book
from afterleaves.errors import BadForm, BadPages, NotThere
from afterleaves.lasting import lasting
from afterleaves.ranges import preferred_ranges, ranges_true
from tests.samples import aslists, leaf, page

ONE = Book((leaf((1,)), leaf((2,), back=()), leaf((3,))))
TWO = Book((leaf((1,)), leaf((2,)), leaf((2, 1), back=()), leaf((3,))))
THREE = Book((leaf((1,)), leaf((3,), back=()), leaf((4,))))
A, B, C, D, E, F = ONE.pages()
NEW, EMPTY = ((2, 1), 0), ((2, 1), 1)
BOOKS = {"one": ONE, "two": TWO, "three": THREE}


def shown(book):
    return [(one.label, side) for one in book for side in (0, 1) if one.side_rows(side)]


def last_for(pairs, stages):
    return all(ranges_true(book, pairs, pages) for book, pages in stages)


def tried(stages):
    """The lasting ranges, found by trying all tuples of pairs: of the fewest ones the inmost."""
    every = sorted({place for book, pages in stages for place in book.pages()})
    pairs = [(first, last) for first in every for last in every if first <= last]
    best = None
    for k in range(1, len(stages) + 1):
        good = []
        for count in range(3):
            good = [row for row in combinations(pairs, count) if last_for(row, stages[:k])]
            if good:
                break
        if not good:
            return best
        spots = {place: spot for spot, place in enumerate(every)}
        best = (min(good, key=lambda row: sum(spots[last] - spots[first] for first, last in row)), k)
    return best


class LastingTest(unittest.TestCase):
    def test_one_stage(self):
        for pages in ((), (A,), (A, B), (A, C), (B, C, E), shown(ONE), (A, E, F)):
            self.assertEqual(lasting(((ONE, pages),)), (preferred_ranges(ONE, pages), 1))

    def test_several_stages(self):
        for stages, told in (
                (((ONE, (A, B)), (TWO, (A, B))), (((A, B),), 2)),
                # The page of the new leaf is told as well: the pair ends as early as can be.
                (((ONE, (C,)), (TWO, (C, D))), (((C, D),), 2)),
                (((ONE, (C, E)), (TWO, (C, D, NEW, E))), (((C, E),), 2)),
                (((ONE, (C, E)), (TWO, (C, D, E))), (((C, D), (E, E)), 2)),
                (((ONE, (A,)), (TWO, (B,))), (((A, A),), 1)),
                (((ONE, (A,)), (TWO, (A,)), (ONE, (A, B))), (((A, A),), 2)),
                (((ONE, ()), (TWO, ()), (THREE, ())), ((), 3)),
                (((ONE, ()), (TWO, ()), (THREE, (A,))), ((), 2)),
                (((ONE, (A,)), (TWO, ())), (((A, A),), 1)),
                (((ONE, (C,)), (THREE, ())), (((C, C),), 1))):
            self.assertEqual(lasting(stages), told, stages)

    def test_pages_that_only_one_book_has(self):
        # What stands on the new leaf alone lies in a pair that begins and ends with pages of both books.
        self.assertEqual(lasting(((ONE, (C, E)), (TWO, (C, D, NEW, E)))), (((C, E),), 2))
        self.assertEqual(lasting(((TWO, (D, NEW)), (ONE, ()))), (((D, NEW),), 1))
        self.assertEqual(lasting(((TWO, (NEW,)), (ONE, ()))), (((NEW, NEW),), 1))
        self.assertEqual(lasting(((ONE, ()), (TWO, (D,)))), (((D, D),), 2))

    def test_pages_without_rows(self):
        self.assertEqual(lasting(((ONE, (C,)), (ONE, (C,)))), (((C, C),), 2))
        self.assertEqual(lasting(((TWO, (NEW, E)), (TWO, (NEW, E)))), (((NEW, E),), 2))
        # No page of the later book that lies outside of the new leaf, but the page without rows, may be told.
        self.assertEqual(lasting(((ONE, (E,)), (TWO, (E,)), (THREE, (((3,), 0),)))), (((E, E),), 3))

    def test_all_tried(self):
        sets = {name: [pages for count in (0, 1, 2) for pages in combinations(shown(book)[1:5], count)] for name, book in BOOKS.items()}
        done = {}
        for one, two in (("one", "two"), ("two", "one"), ("one", "three"), ("three", "two")):
            for first in sets[one][::2]:
                for second in sets[two][::2]:
                    stages = ((BOOKS[one], first), (BOOKS[two], second))
                    told = lasting(stages)
                    self.assertEqual(told, tried(stages), stages)
                    done[told[1]] = done.get(told[1], 0) + 1
        self.assertGreater(done[2], 5)
        self.assertGreater(done[1], 20)

    def test_bad_pages(self):
        for stages in (((ONE, (D,)),), ((ONE, (A, A)),), ((ONE, (B, A)),), ((ONE, None),), ((ONE, (A,)), (TWO, (A, EMPTY))),
                       ((ONE, (A,)), (TWO, (B,)), (ONE, (NEW,))), ((ONE, "1a"),), ((ONE, (page(9),)),)):
            with self.subTest(stages), self.assertRaises(BadPages) as caught:
                lasting(stages)
            self.assertIsInstance(caught.exception, BadForm)
            self.assertNotIsInstance(caught.exception, NotThere)

    def test_lists(self):
        stages = [[ONE, aslists((C, E))], [TWO, aslists((C, D, NEW, E))]]
        self.assertEqual(lasting(stages), (((C, E),), 2))
        self.assertEqual(stages[0][1], aslists((C, E)))
        self.assertEqual(lasting(stages), lasting(stages))


if __name__ == "__main__":
    unittest.main()
