import unittest
from itertools import combinations
from random import Random
from time import perf_counter

from afterleaves.archive import Archive
from afterleaves.books import Book
from afterleaves.chimeras import chimeras
from afterleaves.errors import NoBook, NotThere, TooMany, Unknown
from afterleaves.leaves import Leaf
from afterleaves.meanings import Meanings
from afterleaves.packets import Packet
from afterleaves.safety import enlarged, is_safe, least_safe
from afterleaves.seams import is_seamless
from afterleaves.texts import Text
from tests.archives import FORM, archive_of, edition, every_row, fat_archive, random_archive, random_lettered

# Who missed the first sending and files the second one holds a binder of no edition.
CHIMERA = archive_of(((1, "a", ""), (2, "b", ""), (3, "c", "")), ((1, "x", ""), (2, "b", ""), (3, "c", "")), ((1, "x", ""), (2, "b", ""), (3, "z", "")))
GONE = Text((("contents", "none"),))


def staying(archive):
    """The labels at which the last two books have leaves with the same print."""
    old, new = archive.books[-2:]
    return [label for label in new.labels if label in old and old[label] == new[label]]


def tried_safe(archive, added):
    """Whether a larger sending is safe, by what the document says of it."""
    packet, meanings = enlarged(archive, added), Meanings(archive)
    for row in every_row(len(archive) - 1, True):
        binder = packet(archive.binder(row))
        if meanings.misled_places(binder) or (is_seamless(binder) and binder not in archive.books):
            return False
    return True


def tried_least(archive):
    labels = staying(archive)
    for size in range(len(labels) + 1):
        for added in combinations(labels, size):
            if tried_safe(archive, added):
                return added
    return None


class EnlargedTest(unittest.TestCase):
    def test_enlarged(self):
        for added, bounds, labels in (((), [((2,), None)], [(3,)]), (((1,),), [(None, (2,)), ((2,), None)], [(1,), (3,)]),
                                      (((2,),), [((1,), None)], [(2,), (3,)]), (((1,), (2,)), [(None, None)], [(1,), (2,), (3,)])):
            packet = enlarged(CHIMERA, added)
            self.assertIsInstance(packet, Packet)
            self.assertEqual([stretch[:2] for stretch in packet.stretches], bounds)
            self.assertEqual([each.label for each in packet], labels)
            self.assertEqual(packet(CHIMERA.books[1]), CHIMERA.newest)
            self.assertEqual(enlarged(CHIMERA, [list(label) for label in added]), packet)
        self.assertEqual(enlarged(CHIMERA, ()), CHIMERA.packet(2))

    def test_labels_that_do_not_stay(self):
        for added, name in ((((3,),), (3,)), (((1,), (1, 1), (9,)), (1, 1)), (((1,), (2,), (3,), (4,)), (3,))):
            for call in (enlarged, is_safe):
                with self.subTest(added), self.assertRaises(Unknown) as caught:
                    call(CHIMERA, added)
                self.assertEqual(caught.exception.name, name)
                self.assertIsInstance(caught.exception, NotThere)

    def test_no_sending(self):
        archive = archive_of(((1, "a", ""),))
        for call in (lambda: enlarged(archive, ()), lambda: enlarged(archive, ((1,),)), lambda: is_safe(archive, ((9,),)), lambda: least_safe(archive)):
            with self.assertRaises(Unknown) as caught:
                call()
            self.assertEqual(caught.exception.name, 0)

    def test_too_many_leaves(self):
        archive = fat_archive((8, 1), (8, (8, 8, 8, 1)))
        labels = staying(archive)[:20]
        for call in (enlarged, is_safe):
            with self.assertRaises(TooMany) as caught:
                call(archive, labels)
            self.assertEqual(caught.exception.word, "leaf")
        self.assertLessEqual(len(enlarged(archive, labels[:14])), 40)
        # A label that does not stay goes ahead.
        self.assertRaises(Unknown, enlarged, archive, (*labels, (99,)))


class SafeTest(unittest.TestCase):
    def test_chimeras(self):
        self.assertEqual([row for binder, row in chimeras(CHIMERA)], [(2,)])
        for added, safe in (((), False), (((1,),), True), (((2,),), False), (((1,), (2,)), True)):
            self.assertEqual(is_safe(CHIMERA, added), safe)
        self.assertEqual(least_safe(CHIMERA), ((1,),))
        self.assertEqual(least_safe(CHIMERA), ((1,),))

    def test_misled_pointers(self):
        texts = [Text(blocks) for blocks in (
            (("para", "a", (("see", "b"),)), ("para", "b", ("x",)), ("para", "c", ("y",))),
            (("para", "a", (("see", "b"),)), ("para", "new", ("x",)), ("para", "b", ("x",)), ("para", "c", ("y",))),
            (("para", "a", (("see", "b"),)), ("para", "new", ("z",)), ("para", "b", ("x",)), ("para", "c", ("y",))))]
        books = [Book([Leaf((k + 1,), rows, ()) for k, rows in enumerate(told)]) for told in (
            (("0p1 0p2/2a .",), ("0p2 x .",), ("0p3 y .",)), (("0p1 0p3/2a .",), ("0p2 x .", "0p3 x ."), ("0p4 y .",)),
            (("0p1 0p3/2a .",), ("0p2 z .", "0p3 x ."), ("0p4 y .",)))]
        archive = Archive(FORM, texts, books)
        # Who has the first leaf of the first edition is led to the new paragraph.
        self.assertFalse(is_safe(archive, ()))
        self.assertFalse(is_safe(archive, ((3,),)))
        self.assertTrue(is_safe(archive, ((1,), (3,))))
        self.assertEqual(least_safe(archive), tried_least(archive))

    def test_no_addition_and_all_labels(self):
        safe = archive_of(((1, "a", ""), (2, "b", "")), ((1, "a", ""), (2, "x", "")))
        self.assertEqual(least_safe(safe), ())
        self.assertTrue(is_safe(safe, ()))
        # A chimera comes of each leaf of the first edition that is left.
        all_of = archive_of(((1, "a", ""), (2, "b", ""), (3, "c", "")), ((1, "x", ""), (2, "y", ""), (3, "c", "")), ((1, "x", ""), (2, "y", ""), (3, "z", "")))
        self.assertEqual(least_safe(all_of), ((1,), (2,)))
        self.assertTrue(is_safe(all_of, ((1,), (2,))))
        same = archive_of(*[((1, "a", ""),)] * 3)
        self.assertEqual((least_safe(same), enlarged(same, ()).stretches), ((), ()))

    def test_only_steady_keepers_are_looked_at(self):
        archive = archive_of(((1, "a", ""), (2, "b", "")), ((1, "x", ""), (2, "b", "")), ((1, "a", ""), (2, "d", "")), ((1, "a", ""), (2, "d", "")))
        self.assertEqual([row for binder, row in chimeras(archive, steady=False)], [(2, 1)])
        self.assertTrue(is_safe(archive, ()))
        self.assertEqual(least_safe(archive), ())

    def test_with_all_labels(self):
        random = Random(121)
        for _ in range(40):
            archive = random_lettered(random)
            try:
                self.assertTrue(is_safe(archive, tuple(staying(archive))))
            except TooMany:
                continue

    def test_tried_against_all(self):
        random = Random(122)
        sizes = {}
        for _ in range(80):
            archive = random_lettered(random) if random.random() < 0.5 else random_archive(random, (4, 6), (2, 3, 4), (3, 4, 5))
            least = tried_least(archive)
            self.assertEqual(least_safe(archive), least)
            sizes[len(least)] = True
            for added in [[label for label in staying(archive) if random.random() < 0.5] for _ in range(2)]:
                self.assertEqual(is_safe(archive, added), tried_safe(archive, added))
        self.assertGreaterEqual(len(sizes), 3)

    def test_eight_labels_and_nine(self):
        for count, fits in ((8, True), (9, False)):
            letters = [(k + 1, letter, "") for k, letter in enumerate("abcdefghi"[:count])]
            archive = archive_of((*letters, (20, "q", "")), (*letters, (20, "r", "")))
            if fits:
                self.assertEqual(least_safe(archive), ())
            else:
                with self.assertRaises(TooMany) as caught:
                    least_safe(archive)
                self.assertEqual(caught.exception.word, "leaf")
                # The other two functions take any number of labels.
                self.assertTrue(is_safe(archive, staying(archive)))
                self.assertEqual(len(enlarged(archive, staying(archive))), 10)

    def test_no_choice_is_safe(self):
        # The last two books have no leaves, and a mixed binder stays mixed behind a sending that clears nothing.
        texts, books = zip(edition((1, "a", ""), (2, "b", "")), edition((1, "x", ""), (2, "b", "")), edition((1, "x", ""), (2, "y", "")),
                           (GONE, Book(())), (GONE, Book(())))
        archive = Archive(FORM, texts, books)
        self.assertEqual(enlarged(archive, ()).stretches, ())
        self.assertFalse(is_safe(archive, ()))
        self.assertRaises(NoBook, least_safe, archive)
        # With the one sending that clears all there is no harm.
        self.assertEqual(least_safe(Archive(FORM, texts[:4], books[:4])), ())

    def test_too_many_leaves_of_a_later_keeper(self):
        # Who filed nothing holds a chimera; that another keeper would hold too many leaves is told all the same.
        for count, fits in ((1, True), (2, False)):
            archive = fat_archive((1, 1), (8, 1), (2, 1), (2, (8, 8, 8, count)))
            self.assertIn((3,), [row for binder, row in chimeras(archive)] if fits else [(3,)])
            if fits:
                self.assertFalse(is_safe(archive, ()))
            else:
                self.assertRaises(TooMany, is_safe, archive, ())

    def test_too_many_leaves_behind_earlier_sendings(self):
        archive = fat_archive((8, 1), (1, 1), (1, (8, 8, 8, 2)), (1, (8, 8, 8, 2)))
        self.assertRaises(TooMany, is_safe, archive, ())

    def test_the_larger_sending_itself_is_filed(self):
        # The last sending alone leads who missed the first one to too many leaves; made larger it clears theirs.
        archive = fat_archive((8, 1), (1, 1), (1, (8, 8, 8, 2)))
        self.assertRaises(TooMany, is_safe, archive, ())
        self.assertRaises(TooMany, archive.binder, (2,))
        self.assertTrue(is_safe(archive, ((2,), (3,), (4,), (5,))))

    def test_time(self):
        tails = [((20, letter, ""),) for letter in "pqqr"]
        archive = archive_of(*[tuple((k + 1, letter, "") for k, letter in enumerate(told)) + tail
                               for told, tail in zip(("abcdefgh", "hgfedcba", "stuvwxyz", "stuvwxyz"), tails)])
        began = perf_counter()
        self.assertEqual(least_safe(archive), tuple((k,) for k in range(1, 9)))
        self.assertLess(perf_counter() - began, 5)

    def test_what_is_passed_stays(self):
        added = [[1]]
        before = CHIMERA.packet(2)
        self.assertTrue(is_safe(CHIMERA, added))
        self.assertEqual((added, CHIMERA.packet(2)), ([[1]], before))


if __name__ == "__main__":
    unittest.main()
