import unittest
from random import Random

from afterleaves.books import Book
from afterleaves.errors import AfterError, BadForm, BadLabel, BadPacket, BadStretch, NotThere, TooMany
from afterleaves.labels import BEYOND, label_number, numbered_label
from afterleaves.leaves import Leaf
from afterleaves.packets import Packet, packet_between, parting, trimmed
from tests.archives import random_lettered
from tests.samples import aslists, book, leaf

# Labels that follow each other in the order of all labels: nothing lies between two neighbours of a row.
CHAINS = (((7,), (7, 0, 1), (7, 0, 2)), ((7, 0, 99), (7, 1), (7, 1, 1)), ((7, 1, 99), (7, 2)), ((7, 99, 99), (8,), (8, 0, 1)),
          ((99, 99, 98), (99, 99, 99)))
FIRST, LAST = (0, 0, 1), (99, 99, 99)
LABELS = (FIRST, (0, 0, 2), (1,), (7,), (7, 0, 1), (7, 0, 2), (7, 0, 3), (7, 1), (8,), (99, 99, 98), LAST)


def one(label, word="x"):
    return Leaf(label, (word,), ())


def clear(*stretches):
    return Packet([(low, high, [one(label) for label in labels]) for low, high, labels in stretches])


def many(count, first=1):
    return [one((k,)) for k in range(first, first + count)]


def prints(book):
    return [(each.label, each.front, each.back) for each in book]


def random_packet(random):
    """A packet with stretches between a few labels, and leaves in them."""
    while True:
        ends = sorted(random.choices(range(len(LABELS)), k=2 * random.randint(0, 3)))
        stretches = []
        for at in range(0, len(ends), 2):
            low, high = LABELS[ends[at]], LABELS[ends[at + 1]]
            inside = [one(label, random.choice("xy")) for label in LABELS if low < label < high and random.random() < 0.4]
            low = None if at == 0 and random.random() < 0.3 else low
            high = None if at == len(ends) - 2 and random.random() < 0.3 else high
            stretches.append((low, high, inside))
        try:
            return Packet(stretches)
        except BadStretch:
            continue


def sample_books(random):
    """The book without leaves, all books of one of the labels, and some of several."""
    singles = [Book((one(label, "z"),)) for label in LABELS]
    return [Book(())] + singles + [Book([one(label, "z") for label in LABELS if random.random() < 0.5]) for _ in range(8)]


class NumberTest(unittest.TestCase):
    def test_labels_that_follow_each_other(self):
        for chain in CHAINS:
            numbers = [label_number(label) for label in chain]
            self.assertEqual(numbers, list(range(numbers[0], numbers[0] + len(chain))), chain)
            self.assertEqual(tuple(numbered_label(number) for number in numbers), chain)
        self.assertEqual((label_number(FIRST), label_number(LAST)), (1, BEYOND - 1))
        self.assertEqual((numbered_label(0), numbered_label(BEYOND)), (None, None))


class FormTest(unittest.TestCase):
    def test_attributes(self):
        packet = Packet([[None, [2], [one((1,))]], [[2], None, []]])
        self.assertEqual(packet.stretches, ((None, (2,), (one((1,)),)), ((2,), None, ())))
        self.assertEqual((len(packet), list(packet)), (1, [one((1,))]))
        self.assertEqual((len(Packet(())), list(Packet([]))), (0, []))

    def test_equal(self):
        packet = clear(((1,), (5,), [(2,)]))
        self.assertTrue(packet == Packet([[[1], [5], [one((2,))]]]))
        self.assertFalse(packet == clear(((1,), (5,), [(3,)])))
        self.assertFalse(packet == clear(((1,), (6,), [(2,)])))
        self.assertFalse(packet == packet.stretches)
        self.assertFalse(packet == Book((one((2,)),)))

    def test_which_labels_are_cleared(self):
        packet = clear(((1,), (3,), []), ((3,), (7,), [(5,)]), ((7,), (7, 0, 1), []), ((99, 99, 98), None, []))
        for label in ((1, 0, 1), (2,), (2, 99, 99), (3, 0, 1), (5,), (6, 99, 99), LAST, [2]):
            self.assertTrue(label in packet, label)
        for label in ((1,), (3,), (7,), (7, 0, 1), (0, 99, 99), (99, 99, 98), FIRST, (), (0,), "2", None, 2, (True,), (2, 0)):
            self.assertFalse(label in packet, label)
        self.assertTrue(FIRST in clear((None, None, [])))
        self.assertTrue(FIRST in clear((None, (0, 0, 2), [])))
        self.assertFalse(FIRST in clear((None, FIRST, [])))

    def test_no_tuple(self):
        for thing in (None, "x", 5, {}, Book(()), one((1,))):
            with self.subTest(thing), self.assertRaises(BadPacket) as caught:
                Packet(thing)
            self.assertIsInstance(caught.exception, BadForm)
            self.assertNotIsInstance(caught.exception, NotThere)

    def test_twelve_and_thirteen(self):
        stretches = [((k,), (k + 1,), ()) for k in range(13)]
        stretches[0] = ((0, 1), (1,), ())
        self.assertEqual(len(Packet(stretches[:12]).stretches), 12)
        for thing in (stretches, [None] * 13):
            with self.assertRaises(TooMany) as caught:
                Packet(thing)
            self.assertEqual(caught.exception.word, "stretch")
            self.assertNotIsInstance(caught.exception, (BadForm, NotThere))

    def test_forty_leaves_and_forty_one(self):
        self.assertEqual(len(Packet(((None, None, many(40)),))), 40)
        for stretches in (((None, None, many(41)),), ((None, (30,), many(20)), ((30,), None, many(21, 31)))):
            with self.assertRaises(TooMany) as caught:
                Packet(stretches)
            self.assertEqual(caught.exception.word, "leaf")
        # A bad stretch goes ahead of too many leaves.
        self.assertRaises(BadStretch, Packet, ((None, (60,), many(41)), ((50,), None, ())))

    def test_bad_stretches(self):
        good = ((1,), (2,), ())
        marked = Leaf((3,), ("x",), (), ((0, 0, 0, "y"),))
        for thing in (None, (), "x", ((2,), (5,)), ((2,), (5,), (), ()), ((2,), (5,), None), ((2,), (5,), "x"), ((2,), (5,), (None,)),
                      ((5,), (5,), ()), ((5,), (4,), ()), ((2, 0), (5,), ()), ((2,), (5, 100), ()), ((2,), 5, ()), ("2", (5,), ()),
                      ((True,), (5,), ()), ((2,), (5,), (one((2,)),)), ((2,), (5,), (one((5,)),)), ((2,), (5,), (one((6,)),)),
                      ((2,), (5,), (one((4,)), one((3,)))), ((2,), (5,), (one((3,)), one((3,)))), ((2,), (5,), (marked,)), ((2,), (5,), ((3,),)),
                      ((2,), (2,), ()), ((7,), (7, 0, 1), (one((7, 0, 1)),)), (False, (5,), ())):
            for ahead in ((), (good,)):
                with self.subTest(thing), self.assertRaises(BadStretch) as caught:
                    Packet((*ahead, thing, None))
                self.assertEqual(caught.exception.place, len(ahead))
                self.assertIsInstance(caught.exception, BadForm)

    def test_where_stretches_begin(self):
        self.assertEqual(len(clear(((1,), (3,), []), ((3,), (4,), []), ((4, 1), None, [])).stretches), 3)
        for stretches in ((((1,), (3,), ()), ((2, 99, 99), (5,), ())), ((None, None, ()), (LAST, None, ())), (((1,), None, ()), ((2,), (3,), ())),
                          ((None, (3,), ()), (None, (4,), ())), (((1,), (3,), ()), (None, (4,), ())), (((5,), (6,), ()), ((1,), (2,), ()))):
            with self.assertRaises(BadStretch) as caught:
                Packet(stretches)
            self.assertEqual(caught.exception.place, 1)

    def test_stretches_without_a_label(self):
        for chain in CHAINS:
            for low, high in zip(chain, chain[1:]):
                self.assertEqual(len(clear((low, high, [])).stretches), 1)
                self.assertEqual(trimmed(clear((low, high, []))), Packet(()))
        for stretch in ((None, FIRST, []), (LAST, None, [])):
            self.assertEqual(trimmed(clear(stretch)), Packet(()))
        packet = clear((None, (0, 0, 2), []), ((7,), (7, 0, 1), []), ((7, 0, 1), (7, 1), [(7, 0, 5)]), (LAST, None, []))
        self.assertEqual(trimmed(packet), clear((None, (0, 0, 2), []), ((7, 0, 1), (7, 1), [(7, 0, 5)])))
        self.assertEqual(len(packet.stretches), 4)
        self.assertEqual(trimmed(trimmed(packet)), trimmed(packet))


class FilingTest(unittest.TestCase):
    def test_filing(self):
        old = book(leaf((1,)), leaf((2,)), leaf((3,)), leaf((3, 1)), leaf((4,)))
        behind = clear(((1,), (3,), [(1, 1), (2, 5)]), ((3,), (4,), []))(old)
        self.assertEqual(behind.labels, ((1,), (1, 1), (2, 5), (3,), (4,)))
        self.assertEqual(behind[(1,)], old[(1,)])
        self.assertEqual(behind[(2, 5)], one((2, 5)))
        self.assertEqual(old.labels, ((1,), (2,), (3,), (3, 1), (4,)))
        self.assertEqual(Packet(())(old), old)
        self.assertEqual(clear((None, None, []))(old), Book(()))
        self.assertEqual(clear((None, None, [(9,)]))(Book(())), Book((one((9,)),)))

    def test_strokes_stay_on_leaves_that_stay(self):
        old = book(Leaf((1,), ("f",), (), ((0, 0, 0, "g"),)), Leaf((2,), ("f",), (), ((0, 0, 0, "g"),)))
        behind = clear(((1,), None, [(2,)]))(old)
        self.assertEqual([each.pen for each in behind], [((0, 0, 0, "g"),), ()])

    def test_sixty_leaves_and_sixty_one(self):
        for count, fits in ((20, True), (21, False)):
            old = Book([one((k, 1)) for k in range(50, 50 + count)])
            packet = Packet(((None, (50,), many(40)),))
            if fits:
                self.assertEqual(len(packet(old)), 60)
            else:
                with self.assertRaises(TooMany) as caught:
                    packet(old)
                self.assertEqual(caught.exception.word, "leaf")
        self.assertEqual(len(Packet(((None, None, many(40)),))(Book(many(60)))), 40)


class SumTest(unittest.TestCase):
    def test_connected_parts(self):
        for first, other, bounds in (
                ((((1,), (3,), []),), (((2,), (5,), []),), [((1,), (5,))]),
                ((((1,), (3,), []),), (((3,), (5,), []),), [((1,), (3,)), ((3,), (5,))]),
                ((((1,), (3,), []),), (((4,), (5,), []),), [((1,), (3,)), ((4,), (5,))]),
                ((((1,), (7, 0, 1), []),), (((7,), (9,), []),), [((1,), (9,))]),
                ((((1,), (7, 0, 1), []),), (((7, 0, 1), (9,), []),), [((1,), (7, 0, 1)), ((7, 0, 1), (9,))]),
                ((((1,), (8,), []),), (((7, 99, 99), (9,), []),), [((1,), (9,))]),
                ((((1,), (2,), []), ((2,), (3,), [])), (((1, 99, 99), (2, 0, 1), []),), [((1,), (3,))]),
                ((((1,), (2,), []), ((4,), (5,), [])), (((1, 5), (4, 5), []),), [((1,), (5,))]),
                (((None, (2,), []),), (((3,), None, []),), [(None, (2,)), ((3,), None)]),
                (((None, (3,), []),), (((2,), None, []),), [(None, None)]),
                (((None, None, []),), (), [(None, None)]),
                ((((7,), (7, 0, 1), []),), (), []),
                ((((1,), (7,), []),), (((7,), (7, 0, 1), []), ((7, 0, 1), (9,), [])), [((1,), (7,)), ((7, 0, 1), (9,))]),
                (((None, FIRST, []),), ((LAST, None, []),), []),
                (((None, (0, 0, 2), []),), (((0, 0, 1), (0, 1), []),), [(None, (0, 1))]),
                ((((1,), (9,), []),), (((2,), (3,), []), ((4,), (5,), [])), [((1,), (9,))])):
            for one_side, other_side in ((first, other), (other, first)):
                packet = clear(*one_side) + clear(*other_side)
                self.assertEqual([stretch[:2] for stretch in packet.stretches], bounds)

    def test_leaves_of_the_later_one(self):
        first = Packet((((1,), (4,), [one((2,), "a"), one((3,), "a")]), ((6,), (8,), [one((7,), "a")])))
        later = Packet((((2, 5), (5,), [one((3,), "b"), one((4,), "b")]),))
        self.assertEqual(prints(first + later), [((2,), ("a",), ()), ((3,), ("b",), ()), ((4,), ("b",), ()), ((7,), ("a",), ())])
        self.assertEqual(prints(later + first), [((2,), ("a",), ()), ((3,), ("a",), ()), ((4,), ("b",), ()), ((7,), ("a",), ())])
        self.assertEqual((len(first), len(later)), (3, 2))

    def test_sums_are_judged(self):
        wide = [clear(*[((k,), (k + 1,), []) for k in range(first, 26, 4)]) for first in (1, 3)]
        self.assertEqual([len(packet.stretches) for packet in wide], [7, 6])
        with self.assertRaises(TooMany) as caught:
            wide[0] + wide[1]
        self.assertEqual(caught.exception.word, "stretch")
        with self.assertRaises(TooMany) as caught:
            Packet(((None, (50,), many(30)),)) + Packet((((50,), None, many(11, 51)),))
        self.assertEqual(caught.exception.word, "leaf")
        self.assertEqual(len(Packet(((None, (50,), many(40)),)) + Packet(((None, (50,), many(40)),))), 40)

    def test_one_behind_the_other(self):
        random = Random(31)
        for _ in range(400):
            first, other = random_packet(random), random_packet(random)
            both = first + other
            self.assertEqual(trimmed(both), both)
            for old in sample_books(random):
                self.assertEqual(both(old), other(first(old)))
            for label in LABELS:
                self.assertEqual(label in both, label in first or label in other)
            third = random_packet(random)
            self.assertEqual((first + other) + third, first + (other + third))


class PartingTest(unittest.TestCase):
    def test_packets_that_do_the_same(self):
        empty = Packet(())
        for chain in CHAINS:
            self.assertIsNone(parting(empty, clear((chain[0], chain[1], []))))
        self.assertIsNone(parting(clear((None, FIRST, []), (LAST, None, [])), empty))
        self.assertIsNone(parting(clear(((1,), (7,), []), ((7,), (7, 0, 1), [])), clear(((1,), (7,), []))))

    def test_packets_that_part(self):
        for first, other, count in (
                ((), ((None, None, [(1,)]),), 0), ((), ((None, None, []),), 1), ((((1,), (3,), []),), (((1,), (3, 0, 1), []),), 1),
                ((((1,), (3,), []),), (((1,), (2,), []), ((2,), (3,), [])), 1), ((((1,), (3,), [(2,)]),), (((1,), (4,), [(2,)]),), 1),
                ((((7,), (7, 0, 2), []),), (), 1), (((None, (0, 0, 2), []),), (), 1), ((((99, 99, 98), None, []),), ((LAST, None, []),), 1)):
            one_side, other_side = clear(*first), clear(*other)
            for pair in ((one_side, other_side), (other_side, one_side)):
                told = parting(*pair)
                self.assertIsInstance(told, Book)
                self.assertEqual(len(told), count)
                self.assertNotEqual(pair[0](told), pair[1](told))
                self.assertEqual(parting(*pair), told)
        words = [Packet(((None, None, [one((1,), word)]),)) for word in "xy"]
        self.assertEqual(parting(*words), Book(()))

    def test_tried_against_books(self):
        random = Random(32)
        same = 0
        for _ in range(600):
            first = random_packet(random)
            other = random_packet(random) if random.random() < 0.8 else first + first
            told = parting(first, other)
            parts = any(first(old) != other(old) for old in sample_books(random))
            if told is None:
                same = same + 1
                self.assertFalse(parts)
            else:
                self.assertLessEqual(len(told), 1)
                self.assertNotEqual(first(told), other(told))
        self.assertGreater(same, 50)


class BetweenTest(unittest.TestCase):
    def test_stretches(self):
        old = book(leaf((1,)), leaf((2,)), leaf((3,)), leaf((4,)), leaf((5,)))
        new = book(leaf((1,)), leaf((2,), ("new",)), leaf((3,)), leaf((3, 1)), leaf((3, 2)), leaf((4,)), leaf((6,)))
        packet = packet_between(old, new)
        self.assertEqual([stretch[:2] for stretch in packet.stretches], [((1,), (3,)), ((3,), (4,)), ((4,), None)])
        self.assertEqual([each.label for each in packet], [(2,), (3, 1), (3, 2), (6,)])
        self.assertEqual(packet(old), new)
        self.assertEqual([stretch[:2] for stretch in packet_between(new, old).stretches], [((1,), (3,)), ((3,), (4,)), ((4,), None)])

    def test_ends(self):
        a, b = leaf((1,)), leaf((2,))
        self.assertEqual(packet_between(book(a), book(a)), Packet(()))
        self.assertEqual(packet_between(book(), book()), Packet(()))
        self.assertEqual(packet_between(book(), book(a)).stretches, ((None, None, (a,)),))
        self.assertEqual(packet_between(book(a), book()).stretches, ((None, None, ()),))
        self.assertEqual(packet_between(book(b), book(a, b)).stretches, ((None, (2,), (a,)),))
        self.assertEqual(packet_between(book(a, b), book(a)).stretches, (((1,), None, ()),))

    def test_strokes_are_not_looked_at(self):
        old = book(Leaf((1,), ("f",), (), ((0, 0, 0, "g"),)), leaf((2,)))
        new = book(Leaf((1,), ("f",), ()), Leaf((2,), ("n",), (), ((0, 0, 0, "g"),)))
        packet = packet_between(old, new)
        self.assertEqual(packet.stretches, (((1,), None, (Leaf((2,), ("n",), ()),)),))
        self.assertEqual(new.leaves[1].pen, ((0, 0, 0, "g"),))
        self.assertTrue(packet(old).same_print(new))

    def test_too_much(self):
        with self.assertRaises(TooMany) as caught:
            packet_between(book(), Book(many(41)))
        self.assertEqual(caught.exception.word, "leaf")
        stays = Book(many(25))
        for count, fits in ((12, True), (13, False)):
            new = Book([leaf((k,), ("new",)) if k % 2 and k < 2 * count else one((k,)) for k in range(1, 26)])
            if fits:
                self.assertEqual(len(packet_between(stays, new).stretches), 12)
            else:
                with self.assertRaises(TooMany) as caught:
                    packet_between(stays, new)
                self.assertEqual(caught.exception.word, "stretch")

    def test_the_fewest_leaves(self):
        random = Random(33)
        for _ in range(60):
            archive = random_lettered(random)
            old, new = random.choice(archive.books), random.choice(archive.books)
            packet = packet_between(old, new)
            self.assertEqual(packet(old), new)
            lacking = [each for each in new if each not in old.leaves]
            self.assertEqual(list(packet), lacking)
            self.assertTrue(trimmed(packet) == packet)
            for label in old.labels:
                self.assertEqual(label in packet, label not in new or old[label] != new[label])

    def test_what_is_passed_stays(self):
        stretches = [[[1], [5], [one((2,))]]]
        packet = Packet(stretches)
        stretches[0][2].append(one((3,)))
        stretches.append(None)
        self.assertEqual(packet.stretches, (((1,), (5,), (one((2,)),)),))
        further = packet + clear((None, None, [(9,)]))
        self.assertEqual((len(packet), len(further)), (1, 1))
        self.assertEqual(packet, Packet(packet.stretches))
        self.assertEqual(Packet(aslists(((None, (1,), ()),))).stretches, ((None, (1,), ()),))

    def test_errors(self):
        self.assertTrue(issubclass(BadStretch, AfterError))
        # What is no label in a packet makes a bad stretch.
        self.assertRaises(BadStretch, Packet, (((0,), None, ()),))
        self.assertFalse(issubclass(BadStretch, BadLabel))


if __name__ == "__main__":
    unittest.main()
