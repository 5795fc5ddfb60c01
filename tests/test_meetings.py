import unittest
from random import Random

from afterleaves.books import Book, is_kept
from afterleaves.errors import NotThere, TooMany, Unknown, Unreached
from afterleaves.healing import healing_packet
from afterleaves.leaves import Leaf
from afterleaves.meetings import filed_again, meeting, surely_filed, surely_missed
from afterleaves.packets import Packet, packet_between
from afterleaves.reached import binders, rows_to
from tests.archives import archive_of, every_row, fat_archive, random_archive, random_lettered
from tests.samples import aslists

FOUR = archive_of(((1, "a", ""), (2, "b", "")), ((1, "x", ""), (2, "b", "")), ((1, "x", ""), (2, "y", "")), ((1, "z", ""), (2, "z", "")))
SAME = archive_of(*[((1, "a", ""), (2, "b", ""))] * 5)
ONE = archive_of(((1, "a", ""),))
A, B = (1,), (2,)


class MeetingTest(unittest.TestCase):
    def test_meetings(self):
        for wanted, steady, row in (((), True, ()), (((A, 0),), True, ()), (((A, 1),), True, (1,)), (((A, 2),), True, (1,)), (((B, 2),), True, (2,)),
                                    (((A, 0), (B, 2)), True, (2,)), (((A, 1), (B, 2)), True, (1, 2)), (((A, 3), (B, 3)), True, (3,)),
                                    (((A, 3), (B, 2)), True, None), (((A, 3), (B, 2)), False, (3, 2)), (((A, 1), (B, 3)), False, (3, 1)),
                                    (((A, 0), (B, 3)), True, None), (((A, 0), (B, 3)), False, None), (((A, 0), (A, 1)), False, None),
                                    (((A, 1), (A, 2)), True, (1,)), (((B, 0), (B, 1), (A, 0)), True, ())):
            with self.subTest(wanted):
                self.assertEqual(meeting(FOUR, wanted, steady=steady), row)
                self.assertEqual(meeting(FOUR, aslists(wanted), steady=steady), row)

    def test_keepers_are_steady_unless_it_is_told(self):
        self.assertIsNone(meeting(FOUR, ((A, 3), (B, 2))))
        self.assertRaises(Unreached, surely_filed, FOUR, FOUR.binder((3, 2)))
        self.assertRaises(Unreached, surely_missed, FOUR, FOUR.binder((3, 2)))
        self.assertEqual(rows_to(FOUR, FOUR.binder((3, 2))), ())
        # What hasty keepers can have at a label steady ones can have, too.
        self.assertEqual(healing_packet(FOUR), healing_packet(FOUR, steady=False))

    def test_leaves_that_are_the_same_in_several_editions(self):
        for k in range(5):
            self.assertEqual(meeting(SAME, ((A, k), (B, 4 - k))), ())
        self.assertEqual(meeting(ONE, ((A, 0),), steady=False), ())

    def test_wrong(self):
        for wanted, name in ((((A, 4),), 4), (((A, -1),), -1), ((((3,), 0),), (3,)), (((A, 0), ((1, 1), 2), (A, 9)), (1, 1)), (((A, 0), (A, 9), ((3,), 0)), 9),
                             ((((3,), 9),), 9)):
            for steady in (True, False):
                with self.subTest(wanted), self.assertRaises(Unknown) as caught:
                    meeting(FOUR, wanted, steady=steady)
                self.assertEqual(caught.exception.name, name)
                self.assertIsInstance(caught.exception, NotThere)

    def test_tried_against_all(self):
        random = Random(81)
        met = {True: 0, False: 0}
        for _ in range(80):
            archive = random_lettered(random) if random.random() < 0.7 else random_archive(random)
            for steady in (True, False):
                wanted = []
                for _ in range(random.randint(1, 3)):
                    k = random.randrange(len(archive.books))
                    wanted.append((random.choice(archive.books[k].labels), k))
                rows = [row for row in every_row(len(archive), steady)
                        if all(is_kept(archive.binder(row), archive.books[k][label]) for label, k in wanted)]
                self.assertEqual(meeting(archive, wanted, steady=steady), rows[0] if rows else None)
                met[bool(rows)] = met[bool(rows)] + 1
        self.assertGreater(min(met.values()), 30)

    def test_too_many_leaves(self):
        archive = fat_archive((8, 1), (1, 1), (1, (8, 8, 8, 2)))
        for call in (lambda: meeting(archive, ((A, 0),)), lambda: surely_filed(archive, archive.books[0]), lambda: surely_missed(archive, archive.books[0]),
                     lambda: filed_again(archive, archive.books[0]), lambda: healing_packet(archive)):
            with self.assertRaises(TooMany) as caught:
                call()
            self.assertEqual(caught.exception.word, "leaf")
        # What is wrong of the leaves goes ahead.
        self.assertRaises(Unknown, meeting, archive, ((A, 3),))


class SureTest(unittest.TestCase):
    def test_sure(self):
        for row, steady, filed, missed in (((), True, (), (1, 2, 3)), ((1,), True, (1,), (2, 3)), ((1, 2), True, (1, 2), (3,)), ((1, 2, 3), True, (3,), ()),
                                           ((1, 2), False, (1, 2), ()), ((3, 1), False, (1, 3), ()), ((3,), False, (3,), ()), ((1,), False, (1,), (2, 3))):
            binder = FOUR.binder(row)
            self.assertEqual(surely_filed(FOUR, binder, steady=steady), filed)
            self.assertEqual(surely_missed(FOUR, binder, steady=steady), missed)

    def test_editions_with_the_same_book(self):
        self.assertEqual((surely_filed(SAME, SAME.newest), surely_missed(SAME, SAME.newest)), ((), ()))
        self.assertEqual((surely_filed(ONE, ONE.newest), surely_missed(ONE, ONE.newest)), ((), ()))

    def test_unreached(self):
        for binder in (Book(()), Book(FOUR.newest.leaves[:1])):
            for steady in (True, False):
                for call in (surely_filed, surely_missed):
                    self.assertRaises(Unreached, call, FOUR, binder, steady=steady)
            with self.assertRaises(Unreached) as caught:
                filed_again(FOUR, binder)
            self.assertIsInstance(caught.exception, NotThere)
        mixed = FOUR.binder((3, 1))
        self.assertRaises(Unreached, surely_filed, FOUR, mixed)
        self.assertRaises(Unreached, surely_missed, FOUR, mixed)
        self.assertEqual(surely_filed(FOUR, mixed, steady=False), (1, 3))
        # For filing again it does not matter what kind of keeper it was.
        self.assertEqual(filed_again(FOUR, mixed), (3,))

    def test_prints_are_compared(self):
        marked = Book([Leaf(each.label, each.front, each.back, ((0, 0, 1, "q"),)) for each in FOUR.books[1]])
        self.assertEqual(surely_filed(FOUR, marked), (1,))
        self.assertEqual(filed_again(FOUR, marked), (3,))
        kept = Book([Leaf(each.label, each.front, each.back, ((0, 0, 1, "q"),)) for each in FOUR.newest])
        self.assertEqual(filed_again(FOUR, kept), ())
        self.assertEqual(meeting(FOUR, ((A, 3),)), (3,))

    def test_tried_against_all_rows(self):
        random = Random(82)
        for _ in range(40):
            archive = random_lettered(random)
            row = random.choice(every_row(len(archive), False))
            binder = archive.binder(row)
            for steady in (True, False):
                rows = [other for other in every_row(len(archive), steady) if archive.binder(other) == binder]
                if not rows:
                    self.assertRaises(Unreached, surely_filed, archive, binder, steady=steady)
                    continue
                sendings = range(1, len(archive) + 1)
                self.assertEqual(surely_filed(archive, binder, steady=steady), tuple(k for k in sendings if all(k in other for other in rows)))
                self.assertEqual(surely_missed(archive, binder, steady=steady), tuple(k for k in sendings if all(k not in other for other in rows)))
            fitting = [other for other in every_row(len(archive), False) if archive.binder(row + other) == archive.newest]
            self.assertEqual(filed_again(archive, binder), fitting[0])

    def test_filed_again(self):
        for row, again in (((), (3,)), ((1, 2, 3), ()), ((3, 1), (3,)), ((2, 1), (3,))):
            self.assertEqual(filed_again(FOUR, FOUR.binder(row)), again)
        archive = archive_of(((1, "a", ""), (2, "b", "")), ((1, "x", ""), (2, "b", "")), ((1, "x", ""), (2, "y", "")))
        for row, again in (((), (1, 2)), ((1,), (2,)), ((2,), (1,)), ((2, 1), ())):
            self.assertEqual(filed_again(archive, archive.binder(row)), again)
        # A sending must be filed again though it was filed, and ahead of one with a lesser number.
        letters = archive_of(((1, "a", ""), (2, "b", "")), ((1, "x", ""), (2, "q", "")), ((1, "x", ""), (2, "y", "")), ((1, "a", ""), (2, "y", "")))
        for row in every_row(3, False):
            again = filed_again(letters, letters.binder(row))
            self.assertEqual(letters.binder(row + again), letters.newest)
        # Any order is allowed, though the keeper is steady.
        turned = archive_of(((1, "a", ""), (2, "b", "")), ((1, "x", ""), (2, "b", "")), ((1, "y", ""), (2, "z", "")), ((1, "x", ""), (2, "z", "")))
        self.assertEqual(filed_again(turned, turned.books[0]), (2, 1))
        self.assertEqual(filed_again(SAME, SAME.newest), ())
        self.assertEqual(filed_again(ONE, ONE.newest), ())


class HealingTest(unittest.TestCase):
    def check(self, archive, steady):
        packet = healing_packet(archive, steady=steady)
        reached = [binder for binder, row in binders(archive, steady=steady)]
        for binder in reached:
            self.assertEqual(packet(binder), archive.newest)
        lacking = [each for each in archive.newest if any(not is_kept(binder, each) for binder in reached)]
        self.assertEqual(list(packet), lacking)
        shared = [each.label for each in archive.newest if each not in lacking]
        bounds = [(low, high) for low, high in zip([None] + shared, shared + [None])
                  if any((low is None or label > low) and (high is None or label < high) for binder in reached for label in binder.labels)]
        self.assertEqual([stretch[:2] for stretch in packet.stretches], bounds)
        self.assertEqual(packet, healing_packet(archive, steady=steady))
        return packet

    def test_healing(self):
        self.assertEqual(self.check(FOUR, True), packet_between(Book(()), FOUR.newest))
        for archive in (ONE, SAME):
            self.assertEqual(self.check(archive, False), Packet(()))
        first = archive_of(((1, "a", ""), (2, "b", ""), (5, "c", "")), ((1, "x", ""), (2, "b", ""), (5, "c", "")), ((1, "a", ""), (2, "b", ""), (5, "z", "")))
        self.assertEqual([stretch[:2] for stretch in self.check(first, True).stretches], [(None, (2,)), ((2,), None)])
        last = ((2, "c", ""), (3, "d", ""))
        gone = archive_of(((1, "ab", ""), *last), ((1, "a", ""), ((1, 1), "b", ""), *last), ((1, "ab", ""), *last))
        packet = self.check(gone, True)
        self.assertEqual([(low, high, len(leaves)) for low, high, leaves in packet.stretches], [(None, (2,), 1)])

    def test_tried_against_binders(self):
        random = Random(83)
        sizes = {}
        for _ in range(60):
            archive = random_lettered(random) if random.random() < 0.7 else random_archive(random)
            for steady in (True, False):
                size = len(self.check(archive, steady))
                sizes[size] = True
        self.assertGreater(len(sizes), 3)

    def test_too_many(self):
        # Each sending puts in few leaves, but the binders lack more than 40 of the newest book in all.
        archive = fat_archive((8, 1), (8, (8, 1, 1, 1)), ((7, 8, 8, 8), (8, 1, 1, 1)), ((7, 8, 8, 8), (8, 8, 1, 1)))
        self.assertTrue(all(len(archive.packet(k)) <= 40 for k in (1, 2, 3)))
        with self.assertRaises(TooMany) as caught:
            healing_packet(archive)
        self.assertEqual(caught.exception.word, "leaf")


class ReachTest(unittest.TestCase):
    def test_a_binder_hangs_on_the_last_sending_over_each_label(self):
        random = Random(84)
        for _ in range(20):
            archive = random_lettered(random)
            for row in random.sample(every_row(len(archive), False), min(10, len(every_row(len(archive), False)))):
                binder = archive.binder(row)
                for label in sorted({label for book in archive.books for label in book.labels}):
                    over = [k for k in row if label in archive.packet(k)]
                    source = archive.books[over[-1] if over else 0]
                    self.assertEqual(label in binder, label in source)
                    if label in binder:
                        self.assertEqual(binder[label], source[label])
                self.assertIn(row, rows_to(archive, binder, steady=False))


if __name__ == "__main__":
    unittest.main()
