import unittest
from random import Random

from afterleaves.archive import Archive
from afterleaves.books import Book
from afterleaves.errors import NoPointer, TooMany
from afterleaves.following import follow, pointers_on
from afterleaves.formats import Format
from afterleaves.leaves import Leaf
from afterleaves.meanings import Meanings, first_misled
from afterleaves.reached import binders
from afterleaves.textread import read_text
from tests.archives import fat_archive, random_archive
from tests.samples import page, setting, setting_book

FORM = Format(20, 6)
A, AB, B, BB = page(1), page(1, "b"), page(2), page(2, "b")


def archive(*editions, form=Format(20, 3)):
    """The archive of editions, each a tuple of the lines of a text and the leaves of its book."""
    return Archive(form, [read_text(lines) for lines, leaves in editions], [Book([Leaf(*parts) for parts in leaves]) for lines, leaves in editions])


# The second paragraph gets another name, then another paragraph comes ahead of it, which takes its number and its place.
FIRST = ((1,), ("0p1 0p2/2a .",), ())
NAMES = archive((("para a see:b", "para b x"), (FIRST, ((2,), ("0p2 x .",), ()))),
                (("para a see:c", "para c x"), (FIRST, ((2,), ("0p2 x .",), ()))),
                (("para a see:d", "para d y", "para c x"), (FIRST, ((2,), ("0p2 y .", "0p3 x ."), ()))))


class MeaningsTest(unittest.TestCase):
    def test_an_edition(self):
        meanings = Meanings(Archive(FORM, (setting(),), (setting_book(),)))
        leaves = setting_book().leaves
        for leaf, side, row, word, names in ((0, 0, 2, 2, ("late",)), (0, 1, 4, 1, ("ends",)), (2, 0, 0, 1, ("fees",)), (2, 0, 1, 1, ("ends",)),
                                             (1, 0, 1, 3, ()), (0, 0, 2, 1, ()), (0, 0, 9, 9, ()), (0, 0, -1, 2, ()), (3, 0, 0, 2, ()), (0, 2, 2, 2, ())):
            self.assertEqual(meanings.meant(leaves[leaf], side, row, word), names)
        for leaf, side, row, names in ((0, 0, 0, ("fees",)), (0, 0, 1, ("dues",)), (0, 0, 2, ()), (0, 0, 4, ()), (0, 1, 0, ("plan",)), (0, 1, 3, ("late",)),
                                       (1, 0, 0, ("ends",)), (1, 0, 1, ("more",)), (2, 0, 0, ("list",)), (2, 0, 1, ()), (3, 0, 0, ("words",)), (1, 1, 0, ()),
                                       (0, 0, 12, ()), (0, 0, -1, ())):
            self.assertEqual(meanings.standing(leaves[leaf], side, row), names)

    def test_leaves_of_one_several_and_no_edition(self):
        meanings = Meanings(NAMES)
        first, second, third = NAMES.books[0].leaves[0], NAMES.books[0].leaves[1], NAMES.books[2].leaves[1]
        self.assertEqual(meanings.meant(first, 0, 0, 1), ("b", "c", "d"))
        self.assertEqual(meanings.standing(first, 0, 0), ("a",))
        self.assertEqual(meanings.standing(second, 0, 0), ("b", "c"))
        self.assertEqual((meanings.standing(third, 0, 0), meanings.standing(third, 0, 1)), (("d",), ("c",)))
        for strange in (Leaf((3,), ("0p2 x .",), ()), Leaf((2,), ("0p2 z .",), ()), Leaf((2,), ("0p2 x .",), ("y",))):
            self.assertEqual((meanings.standing(strange, 0, 0), meanings.meant(strange, 0, 0, 1)), ((), ()))
        # It is the print that stands in an edition.
        marked = first.penned(((0, 0, 1, "0p2/1a"),))
        self.assertEqual(meanings.meant(marked, 0, 0, 1), ("b", "c", "d"))

    def test_next_and_sections(self):
        lines = ("head one 2 x", "para a next:head next:para see:a span:one:two", "head two 2 y", "para z w", "contents l", "index i w x")
        leaf = ((1,), ("0.1 x", "0p1 0.2/here 0p2/here 0p1/here", "1a .", "0.2 y", "0p2 w ."), ())
        contents = ((2,), ("- 0.1/1a x", "- 0.2/1a y"), ())
        meanings = Meanings(archive((lines, (leaf, contents, ((3,), ("+ w 1a", "+ x 1a"), ()))), form=Format(32, 6)))
        self.assertEqual([meanings.meant(Leaf(*leaf), 0, 1, word) for word in range(4)], [(), ("two",), ("z",), ("a",)])
        self.assertEqual(meanings.meant(Leaf(*leaf), 0, 2, 0), ())
        self.assertEqual([meanings.standing(Leaf(*leaf), 0, row) for row in range(5)], [("one",), ("a",), (), ("two",), ("z",)])
        self.assertEqual([meanings.meant(Leaf(*contents), 0, row, 1) for row in (0, 1)], [("one",), ("two",)])
        self.assertEqual([meanings.standing(Leaf(*contents), 0, row) for row in (0, 1)], [("l",), ()])


class JudgedTest(unittest.TestCase):
    def test_lost_right_and_misled_in_one_binder(self):
        lines = ("para a see:b see:c see:d", "para b x", "para c y", "para d z")
        first = ((1,), ("0p1 0p2/2a 0p3/3a", "0p4/4a ."), ())
        old = (lines, (first, ((2,), ("0p2 x .",), ()), ((3,), ("0p3 y .",), ()), ((4,), ("0p4 z .",), ())))
        swapped = ("para a see:b see:d see:c", "para b x", "para d y", "para c q")
        new = (swapped, (first, ((2,), ("0p2 x .",), ()), ((3,), ("0p3 y .",), ()), ((4,), ("0p4 q .",), ())))
        found = archive(old, new)
        meanings = Meanings(found)
        binder = Book(found.books[1].leaves[:3])
        self.assertEqual([meanings.judged(binder, place) for place in pointers_on(binder)], ["right", "right", "lost"])
        # The second leaf of another book has the number, and is of no edition.
        strange = Book((found.books[0].leaves[0], Leaf((2,), ("0p2 w .",), ()), found.books[0].leaves[2]))
        self.assertEqual([meanings.judged(strange, place) for place in pointers_on(strange)], ["misled", "right", "lost"])
        self.assertEqual(meanings.misled_places(strange), ((A, 0, 1),))
        self.assertEqual(meanings.judged(strange, [[[1], 0], 0, 1]), "misled")

    def test_names_of_several_blocks(self):
        meanings = Meanings(NAMES)
        for row, words in (((), ["right"]), ((1,), ["right"]), ((2,), ["right"])):
            binder = NAMES.binder(row)
            self.assertEqual([meanings.judged(binder, place) for place in pointers_on(binder)], words)

    def test_misled(self):
        # What stood at 0p2 becomes 0p3; who misses the sending of the pointer is led to another paragraph.
        found = archive((("para a see:b", "para b x"), (FIRST, ((2,), ("0p2 x .",), ()))),
                        (("para a see:b", "para new y", "para b x"), (((1,), ("0p1 0p3/2a .",), ()), ((2,), ("0p2 y .", "0p3 x ."), ()))),
                        (("para a see:b", "para new z", "para b x"), (((1,), ("0p1 0p3/2a .",), ()), ((2,), ("0p2 z .", "0p3 x ."), ()))))
        meanings = Meanings(found)
        missed = found.binder((2,))
        self.assertEqual(pointers_on(missed), ((A, 0, 1),))
        self.assertEqual(follow(missed, (A, 0, 1)), ("found", B, 0))
        self.assertEqual(meanings.judged(missed, (A, 0, 1)), "misled")
        self.assertEqual(meanings.misled_places(missed), ((A, 0, 1),))
        self.assertEqual(first_misled(found), ((2,), (A, 0, 1)))
        self.assertEqual(first_misled(found, steady=False), ((2,), (A, 0, 1)))
        self.assertEqual(meanings.misled_places(found.newest), ())

    def test_only_hasty_keepers_are_misled(self):
        found = archive((("para a see:b", "para b x"), (FIRST, ((2,), ("0p2 x .",), ()))),
                        (("para a see:b", "para b z", "para more w"), (FIRST, ((2,), ("0p2 z .", "0p3 w ."), ()))),
                        (("para a see:b", "para new y", "para b x"), (((1,), ("0p1 0p3/2a .",), ()), ((2,), ("0p2 y .", "0p3 x ."), ()))))
        self.assertIsNone(first_misled(found))
        self.assertEqual(first_misled(found, steady=False), ((2, 1), (A, 0, 1)))

    def test_strokes(self):
        meanings = Meanings(NAMES)
        leaf = NAMES.books[0].leaves[0].penned(((0, 0, 1, "0p1/here"),))
        binder = Book((leaf, NAMES.books[0].leaves[1]))
        self.assertEqual(meanings.judged(binder, (A, 0, 1)), "misled")
        lost = Book((NAMES.books[0].leaves[0].penned(((0, 0, 1, "0p9/2a"),)), NAMES.books[0].leaves[1]))
        self.assertEqual(meanings.judged(lost, (A, 0, 1)), "lost")

    def test_no_pointer(self):
        meanings = Meanings(NAMES)
        for place in ((A, 0, 0), (A, 1, 0), (AB, 0, 0), (page(9), 0, 0), (A, 0, -1)):
            with self.assertRaises(NoPointer) as caught:
                meanings.judged(NAMES.newest, place)
            self.assertEqual(caught.exception.place, place)

    def test_no_leaves(self):
        self.assertEqual(Meanings(NAMES).misled_places(Book(())), ())

    def test_one_edition(self):
        self.assertIsNone(first_misled(Archive(FORM, (setting(),), (setting_book(),)), steady=False))

    def test_too_many_leaves(self):
        self.assertRaises(TooMany, first_misled, fat_archive((8, 1), (1, 1), (1, (8, 8, 8, 2))))

    def test_editions_are_right(self):
        random = Random(101)
        told = {"lost": 0, "right": 0, "misled": 0}
        for _ in range(150):
            found = random_archive(random)
            meanings = Meanings(found)
            for binder in found.books:
                self.assertEqual({meanings.judged(binder, place) for place in pointers_on(binder)} - {"right"}, set())
            misled = []
            for binder, row in binders(found, steady=False):
                for place in pointers_on(binder):
                    word = meanings.judged(binder, place)
                    told[word] = told[word] + 1
                    self.assertEqual(word == "lost", follow(binder, place)[0] == "lost")
                    if word == "misled":
                        misled.append((row, place))
            self.assertEqual(first_misled(found, steady=False), misled[0] if misled else None)
        self.assertGreater(min(told.values()), 3)

    def test_the_same_again(self):
        meanings = Meanings(NAMES)
        first = meanings.meant(NAMES.books[0].leaves[0], 0, 0, 1)
        self.assertEqual(meanings.meant(NAMES.books[0].leaves[0], 0, 0, 1), first)
        self.assertEqual(meanings.misled_places(NAMES.newest), meanings.misled_places(NAMES.newest))
        self.assertIsInstance(first, tuple)


if __name__ == "__main__":
    unittest.main()
