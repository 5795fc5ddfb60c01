import unittest
from random import Random
from time import perf_counter

from afterleaves.archive import Archive
from afterleaves.edits import edited
from afterleaves.errors import (
    AfterError, BadBlock, BadEdit, BadEntry, BadForm, BadPlace, NoBook, NotThere, TooMany, Twice, Unknown)
from afterleaves.formats import Format
from afterleaves.house import House, Trial, foreseen
from afterleaves.looker import Looker
from afterleaves.meanings import Meanings
from afterleaves.packets import packet_between
from afterleaves.renewal import Renewal, fresh_book
from afterleaves.seams import seams
from afterleaves.texts import Text
from tests.archives import fat_words
from tests.randomtexts import WORDS, random_text
from tests.samples import aslists, fig, head, names, para, setting, setting_book

FORM = Format(20, 6)
MORE = ("swap", "more", ("para", "more", ("more", "desk", ("span", "dues", "plan"), "closes")))
BACK = ("swap", "more", setting()["more"])


def house_of(*entries, form=FORM, text=None):
    house = House(form, text or setting())
    for entry in entries:
        house.enter(entry)
    return house


def random_entry(random, house):
    """An entry at random that may be bad."""
    text = house.text_now
    block = random.choice(text.blocks)
    words = tuple(random.choice(WORDS) for _ in range(random.randint(1, 5)))
    edits = [("drop", block[1]), ("put", random.randint(0, len(text)), ("para", random.choice("uvw"), words)), ("move", block[1], random.randint(0, len(text)))]
    if block[0] == "para":
        edits.extend([("swap", block[1], ("para", block[1], (*block[2][:6], random.choice(WORDS))))] * 3)
    name = random.choice("pqr")
    labels = [label for desk in house.desks for label in house.binder_of(desk).labels] or [(1,)]
    return random.choice([("edit", random.choice(edits))] * 6 + [("send",), ("send",), ("recast",), ("begin", name), ("heal", name)] +
                         [("file", name, random.randint(1, 4))] * 3 + [("lose", name, random.choice(labels))])


def random_house(random, count=25):
    """A house with so many entries at random."""
    while True:
        form = Format(random.choice((20, 30)), random.choice((4, 6)), random.random() < 0.7)
        try:
            house = House(form, random_text(random, random.choice((3, 5)), random.choice((1, 2, 3)), 6))
            break
        except NoBook:
            continue
    while len(house.entries) < count:
        try:
            house.enter(random_entry(random, house))
        except AfterError:
            continue
    return house


def state(house):
    """All that can be seen of a house."""
    return (house.form, house.first_text, house.entries, house.archive.texts, house.archive.books, house.text_now, house.account, house.desks,
            [house.binder_of(name) for name in house.desks])


class HouseTest(unittest.TestCase):
    def test_the_beginning(self):
        house = House(FORM, setting())
        self.assertEqual((house.form, house.first_text, house.entries), (FORM, setting(), ()))
        self.assertIsInstance(house.archive, Archive)
        self.assertEqual((house.archive.books, house.archive.texts, len(house.archive)), ((setting_book(),), (setting(),), 0))
        self.assertEqual((house.text_now, house.account, house.desks), (setting(), 0, ()))

    def test_entries(self):
        house = House(FORM, setting())
        house.enter(("edit", MORE))
        self.assertEqual(house.text_now, edited(setting(), MORE))
        self.assertEqual((len(house.archive), house.account), (0, 0))
        house.enter(("begin", "desk"))
        house.enter(("send",))
        self.assertEqual((len(house.archive), house.account, house.archive.newest), (1, 1, Renewal(setting_book(), house.text_now, FORM).book))
        self.assertEqual(house.archive.texts, (setting(), house.text_now))
        self.assertEqual((house.desks, house.binder_of("desk")), (("desk",), setting_book()))
        house.enter(("begin", "attic"))
        self.assertEqual((house.desks, house.binder_of("attic")), (("attic", "desk"), house.archive.newest))
        house.enter(("file", "desk", 1))
        self.assertEqual(house.binder_of("desk"), house.archive.newest)
        house.enter(("lose", "desk", (3,)))
        self.assertEqual(house.binder_of("desk").labels, ((1,), (2,), (4,)))
        self.assertEqual(house.binder_of("attic").labels, ((1,), (2,), (3,), (4,)))
        house.enter(("heal", "desk"))
        self.assertEqual(house.binder_of("desk"), house.archive.newest)
        house.enter(("edit", BACK))
        house.enter(("recast",))
        self.assertEqual((house.account, len(house.archive)), (1 + 4, 2))
        self.assertEqual(house.archive.newest, fresh_book(setting(), FORM))
        self.assertEqual(house.entries, (("edit", MORE), ("begin", "desk"), ("send",), ("begin", "attic"), ("file", "desk", 1), ("lose", "desk", (3,)),
                                         ("heal", "desk"), ("edit", BACK), ("recast",)))

    def test_a_send_of_the_same_text(self):
        house = house_of(("send",), ("send",), ("begin", "desk"), ("file", "desk", 2))
        self.assertEqual((house.account, len(house.archive), house.binder_of("desk")), (0, 2, setting_book()))

    def test_filing_all_in_order(self):
        random = Random(141)
        for _ in range(8):
            house = random_house(random, 12)
            desk = House(house.form, house.first_text)
            desk.enter(("begin", "desk"))
            for entry in house.entries:
                if entry[0] in ("edit", "send", "recast"):
                    desk.enter(entry)
            self.assertEqual(desk.archive.books, house.archive.books)
            count = len(desk.archive)
            for k in [*[random.randint(1, count) for _ in range(3 if count else 0)], *range(1, count + 1)]:
                desk.enter(("file", "desk", k))
            self.assertEqual(desk.binder_of("desk"), desk.archive.newest)

    def test_the_whole(self):
        random = Random(142)
        for _ in range(6):
            house = random_house(random)
            archive = house.archive
            meanings = Meanings(archive)
            for text, book in zip(archive.texts, archive.books):
                self.assertTrue(Looker(house.form)(text, book))
                self.assertEqual((seams(book), meanings.misled_places(book)), ((), ()))
            paid = 0
            texts = [house.upto(k).text_now for k, entry in enumerate(house.entries) if entry[0] in ("send", "recast")]
            self.assertEqual(tuple(texts), archive.texts[1:])
            words = [entry[0] for entry in house.entries if entry[0] in ("send", "recast")]
            for k, word in enumerate(words):
                old, new = archive.books[k:k + 2]
                paid = paid + (len(new) if word == "recast" else len([each for each in new if each.label not in old or not each.same_print(old[each.label])]))
            self.assertEqual(house.account, paid)

    def test_healing(self):
        random = Random(143)
        done = 0
        for _ in range(10):
            house = random_house(random)
            for name in house.desks:
                before = house.binder_of(name)
                if len(packet_between(before, house.archive.newest).stretches) > 0:
                    done = done + 1
                further = house.copy()
                further.enter(("heal", name))
                self.assertEqual(further.binder_of(name), house.archive.newest)
                self.assertEqual(house.binder_of(name), before)
        self.assertGreater(done, 3)

    def test_equal(self):
        house = house_of(("begin", "desk"), ("edit", MORE))
        self.assertTrue(house == house_of(["begin", "desk"], aslists(("edit", MORE))))
        self.assertFalse(house == house_of(("begin", "desk")))
        self.assertFalse(house == house_of(("edit", MORE), ("begin", "desk")))
        self.assertFalse(house == house_of(("begin", "desk"), ("edit", MORE), form=Format(20, 6, False)))
        self.assertFalse(house == house_of(("begin", "desk"), ("edit", MORE), text=edited(setting(), ("put", 0, para("new", "x")))))
        self.assertFalse(house == house.entries)

    def test_lists_are_kept_as_tuples(self):
        house = house_of(aslists(("edit", MORE)), ["edit", ["move", "plan", 3]], ["edit", ["put", 0, ["fig", "new", 1, ["x"]]]], ["edit", ["drop", "new"]],
                         ["begin", "desk"], ["lose", "desk", [1]], ["send"])
        self.assertEqual(house.entries, (("edit", MORE), ("edit", ("move", "plan", 3)), ("edit", ("put", 0, ("fig", "new", 1, ("x",)))), ("edit", ("drop", "new")),
                                         ("begin", "desk"), ("lose", "desk", (1,)), ("send",)))
        entry = ["edit", ["put", 0, ["para", "new", ["x"]]]]
        house = house_of(entry)
        entry[1][2][2].append("y")
        entry.append("z")
        self.assertEqual(house.entries, (("edit", ("put", 0, ("para", "new", ("x",)))),))


class ErrorTest(unittest.TestCase):
    def raised(self, kind, house, entry):
        before = state(house)
        with self.subTest(entry), self.assertRaises(kind) as caught:
            house.enter(entry)
        self.assertEqual(state(house), before)
        return caught.exception

    def test_the_first_book(self):
        self.assertRaises(NoBook, House, FORM, Text((head("a"), head("b"))))
        self.assertRaises(TooMany, House, FORM, Text([fig(name) for name in names(13)]))

    def test_bad_entries(self):
        house = house_of(("begin", "desk"))
        for entry in (None, "send", (), ("Send",), ("send", 1), ("recast", "desk"), ("begin",), ("begin", ""), ("begin", "A"), ("begin", "abcdefghi"), ("begin", "a", "b"),
                      ("edit",), ("edit", MORE, MORE), ("file", "desk"), ("file", "desk", True), ("file", "desk", "1"), ("file", "desk", 1, 1), ("file", 1, 1),
                      ("lose", "desk"), ("lose", "desk", 1), ("lose", "desk", (0,)), ("lose", "desk", (1, True)), ("lose", "Desk", (1,)), ("heal",), ("heal", None),
                      ("heal", "desk", 1), ("drop", "desk"), (1,), (("send",),), ({},), ("lose", "desk", (1,), 1), 5, True,
                      ("file", "desk", (1,)), ("send", "desk", (1,)), ("begin", "desk", (1,)), ("heal", "desk", (1,)), ("lost", "desk", (1,))):
            self.assertIsInstance(self.raised(BadEntry, house, entry), BadForm)
        self.assertEqual(house.entries, (("begin", "desk"),))

    def test_edits(self):
        house = House(FORM, setting())
        for edit in (None, (), "x", ("drop",), ("drop", "A"), ("put", True, ("para", "a", ("x",))), ("move", "dues", "1"), 5):
            self.assertIsInstance(self.raised(BadEdit, house, ("edit", edit)), BadForm)
        self.assertEqual(self.raised(Unknown, house, ("edit", ("drop", "nobody"))).name, "nobody")
        self.assertEqual(self.raised(BadPlace, house, ("edit", ("move", "dues", 8))).place, 8)
        self.assertEqual(self.raised(BadBlock, house, ("edit", ("put", 0, None))).block, 0)
        self.assertEqual(self.raised(Unknown, house, ("edit", ("drop", "late"))).name, "late")

    def test_desks(self):
        house = house_of(*[("begin", name) for name in "abcde"])
        self.assertEqual(self.raised(Twice, house, ("begin", "c")).name, "c")
        house.enter(("begin", "f"))
        self.assertEqual(house.desks, tuple("abcdef"))
        self.assertEqual(self.raised(TooMany, house, ("begin", "g")).word, "desk")
        self.assertEqual(self.raised(Twice, house, ("begin", "f")).name, "f")
        for entry, name in ((("file", "g", 9), "g"), (("lose", "g", (1,)), "g"), (("heal", "g"), "g"), (("file", "a", 1), 1), (("file", "a", 0), 0), (("file", "a", -1), -1),
                            (("lose", "a", (9,)), (9,))):
            error = self.raised(Unknown, house, entry)
            self.assertEqual(error.name, name)
            self.assertIsInstance(error, NotThere)
        for name in ("g", "", "A"):
            with self.assertRaises(Unknown) as caught:
                house.binder_of(name)
            self.assertEqual(caught.exception.name, name)
        house.enter(("lose", "a", (1,)))
        self.raised(Unknown, house, ("lose", "a", (1,)))

    def test_five_editions_and_six(self):
        house = house_of(("send",), ("recast",), ("send",), ("send",))
        self.assertEqual((len(house.archive), len(house.archive.books)), (4, 5))
        house.enter(("begin", "desk"))
        house.enter(("file", "desk", 4))
        house.enter(("edit", ("drop", "more")))
        # Without its paragraph a chapter has no row behind which a page may end: but that there are too many editions goes ahead.
        for word in ("send", "recast"):
            self.assertEqual(self.raised(TooMany, house, (word,)).word, "edition")
        self.raised(Unknown, house, ("file", "desk", 5))

    def test_what_renewals_raise(self):
        house = house_of(("edit", ("drop", "more")))
        for word in ("send", "recast"):
            self.raised(NoBook, house, (word,))
        blocks = house_of(*[("edit", ("put", 0, para(name))) for name in names(5)])
        for word in ("send", "recast"):
            self.assertEqual(self.raised(TooMany, blocks, (word,)).word, "block")
        pointers = house_of(("edit", ("put", 0, para("many", *[("see", "dues")] * 2))))
        for word in ("send", "recast"):
            self.assertEqual(self.raised(TooMany, pointers, (word,)).word, "pointer")

    def test_a_book_of_more_than_twelve_leaves(self):
        small = Format(20, 2)
        house = House(small, Text([para(name, *(["mmmmmmmm"] * 16)) for name in names(4)]))
        self.assertGreater(len(house.archive.newest), 12)
        self.assertEqual(self.raised(TooMany, house, ("send",)).word, "leaf")
        house.enter(("recast",))
        self.assertEqual(house.account, len(house.archive.newest))

    def test_sendings_that_are_no_packets(self):
        small = Format(20, 2)
        house = House(small, Text((("contents", "none"),)))
        for k, name in enumerate(("xa", "xb", "xc", "xd", "ya", "yb", "yc", "yd", "za", "zb", "zc")):
            house.enter(("edit", ("put", k, ("para", name, fat_words(name)))))
        for word in ("send", "recast"):
            self.assertEqual(self.raised(TooMany, house, (word,)).word, "leaf")
        house.enter(("edit", ("drop", "zc")))
        house.enter(("recast",))
        self.assertEqual((len(house.archive.newest), len(house.archive.packet(1))), (40, 40))

    def test_sixty_entries_and_sixty_one(self):
        house = house_of(*[("edit", ("move", "plan", k % 2 + 2)) for k in range(59)], ("begin", "desk"))
        self.assertEqual(len(house.entries), 60)
        for entry in (("edit", None), ("begin", "desk"), ("begin", "b"), ("file", "nobody", 9), ("send",), ("edit", ("drop", "nobody"))):
            self.assertEqual(self.raised(TooMany, house, entry).word, "entry")
        for entry in (None, ("sent",), ("begin", "B")):
            self.raised(BadEntry, house, entry)


class CopyTest(unittest.TestCase):
    def test_copies(self):
        house = house_of(("begin", "desk"), ("edit", MORE))
        other = house.copy()
        self.assertTrue(other == house)
        self.assertIsInstance(other, House)
        before = state(house)
        other.enter(("send",))
        other.enter(("lose", "desk", (1,)))
        self.assertEqual(state(house), before)
        house.enter(("begin", "attic"))
        self.assertEqual((other.desks, len(other.archive), len(house.archive)), (("desk",), 1, 0))
        self.assertEqual(state(other.copy()), state(other))

    def test_upto(self):
        random = Random(144)
        house = random_house(random, 20)
        states = []
        step = House(house.form, house.first_text)
        for entry in (None, *house.entries):
            if entry is not None:
                step.enter(entry)
            states.append(state(step))
        for moment in range(21):
            elder = house.upto(moment)
            self.assertIsInstance(elder, House)
            self.assertEqual(state(elder), states[moment])
            self.assertEqual(elder.entries, house.entries[:moment])
        self.assertTrue(house.upto(20) == house)
        self.assertTrue(house.upto(0) == House(house.form, house.first_text))
        elder = house.upto(10)
        elder.enter(("edit", ("put", 0, ("fig", "zz", 1, ()))))
        self.assertEqual(state(house), states[20])
        self.assertEqual(state(house.upto(10)), states[10])
        self.assertEqual(len(elder.entries), 11)
        self.assertEqual(elder.upto(10), house.upto(10))
        for moment in (-1, 21):
            with self.assertRaises(BadPlace) as caught:
                house.upto(moment)
            self.assertEqual(caught.exception.place, moment)
            self.assertIsInstance(caught.exception, BadForm)

    def test_time(self):
        random = Random(145)
        began = perf_counter()
        house = random_house(random, 60)
        for moment in range(61):
            house.upto(moment).copy()
        self.assertLess(perf_counter() - began, 10)


class TrialTest(unittest.TestCase):
    def test_taken_back(self):
        house = house_of(("begin", "desk"))
        before = state(house)
        with Trial(house) as tried:
            self.assertIs(tried, house)
            tried.enter(("edit", MORE))
            house.enter(("send",))
            house.enter(("lose", "desk", (1,)))
            house.enter(("begin", "attic"))
            self.assertEqual((len(house.entries), house.account, house.desks), (5, 1, ("attic", "desk")))
            inner = house.copy()
        self.assertEqual(state(house), before)
        self.assertEqual((len(inner.entries), inner.account), (5, 1))
        house.enter(("edit", MORE))
        self.assertEqual(house.entries, (("begin", "desk"), ("edit", MORE)))

    def test_an_error(self):
        house = house_of(("begin", "desk"))
        before = state(house)
        with self.assertRaises(Twice):
            with Trial(house) as tried:
                tried.enter(("edit", MORE))
                tried.enter(("begin", "desk"))
        self.assertEqual(state(house), before)
        with self.assertRaises(ZeroDivisionError):
            with Trial(house):
                house.enter(("edit", MORE))
                raise ZeroDivisionError()
        self.assertEqual(state(house), before)
        for word in ("break", "continue"):
            for _ in range(1):
                with Trial(house):
                    house.enter(("edit", MORE))
                    if word == "break":
                        break
                    continue
            self.assertEqual(state(house), before)

    def test_trials_within_trials(self):
        house = house_of()
        with Trial(house):
            house.enter(("begin", "a"))
            with Trial(house):
                house.enter(("begin", "b"))
                self.assertEqual(house.desks, ("a", "b"))
            self.assertEqual(house.desks, ("a",))
        self.assertEqual(house.desks, ())
        trial = Trial(house)
        for name in ("a", "b"):
            with trial:
                house.enter(("begin", name))
                self.assertEqual(house.desks, (name,))
            self.assertEqual(house.desks, ())
            house.enter(("edit", ("move", "plan", 3)))
        self.assertEqual(len(house.entries), 2)

    def test_foreseen(self):
        house = house_of(("begin", "desk"))
        before = state(house)
        self.assertEqual(foreseen(house, ()), 0)
        self.assertEqual(foreseen(house, (("edit", MORE), ("send",))), 1)
        self.assertEqual(foreseen(house, [["edit", MORE], ["send"], ["recast"]]), 5)
        for entries, kind in (((("send",), ("begin", "desk")), Twice), ((("send",),) * 5, TooMany), ((("send",), None), BadEntry), ((("edit", ("drop", "more")), ("send",)), NoBook)):
            self.assertRaises(kind, foreseen, house, entries)
            self.assertEqual(state(house), before)
        house.enter(("recast",))
        self.assertEqual(foreseen(house, ()), 4)
        self.assertEqual(foreseen(house, (("edit", MORE), ("send",))), 5)

    def test_what_an_object_returns(self):
        house = house_of(("begin", "desk"))
        archive, binder = house.archive, house.binder_of("desk")
        house.enter(("edit", MORE))
        house.enter(("send",))
        house.enter(("file", "desk", 1))
        self.assertEqual((len(archive), binder), (0, setting_book()))


if __name__ == "__main__":
    unittest.main()
