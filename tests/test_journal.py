import unittest
from random import Random
from time import perf_counter

from afterleaves.errors import (
    AfterError, BadForm, BadLine, BadPlace, Lacking, NoBook, NotThere, TooMany, Torn, Twice, Unknown)
from afterleaves.formats import Format
from afterleaves.house import House
from afterleaves.journal import read_journal, taken_up, write_journal
from tests.samples import SETTING, names, setting
from tests.test_house import house_of, random_house

HEAD = ("house 20 6 yes", f"text {len(SETTING)}", *SETTING)
ENTRIES = ("edit swap more para more more desk span:dues:plan closes", "begin desk", "send", "file desk 1", "lose desk 3", "heal desk",
           "edit put 0 fig new 1", "edit move new 2", "edit drop new", "recast", "begin attic")
LINES = (*HEAD, *ENTRIES)


class WriteTest(unittest.TestCase):
    def test_lines(self):
        house = read_journal(LINES)
        self.assertEqual(house.entries, (
            ("edit", ("swap", "more", ("para", "more", ("more", "desk", ("span", "dues", "plan"), "closes")))), ("begin", "desk"), ("send",), ("file", "desk", 1),
            ("lose", "desk", (3,)), ("heal", "desk"), ("edit", ("put", 0, ("fig", "new", 1, ()))), ("edit", ("move", "new", 2)), ("edit", ("drop", "new")),
            ("recast",), ("begin", "attic")))
        self.assertEqual((house.first_text, house.form.width, house.form.height, house.form.near), (setting(), 20, 6, True))
        self.assertEqual(write_journal(house), LINES)
        self.assertEqual(write_journal(read_journal(list(LINES))), LINES)

    def test_a_house_without_entries(self):
        house = House(Format(60, 12, False), setting())
        lines = write_journal(house)
        self.assertEqual(lines[:3], ("house 60 12 no", "text 8", SETTING[0]))
        self.assertEqual(len(lines), 10)
        self.assertTrue(read_journal(lines) == house)

    def test_there_and_back(self):
        random = Random(151)
        for count in (0, 5, 20, 30):
            house = random_house(random, count)
            lines = write_journal(house)
            self.assertEqual(len(lines), 2 + len(house.first_text) + count)
            again = read_journal(lines)
            self.assertTrue(again == house)
            self.assertEqual((again.archive.books, again.account, again.desks), (house.archive.books, house.account, house.desks))
            self.assertEqual([again.binder_of(name) for name in again.desks], [house.binder_of(name) for name in house.desks])
            self.assertEqual(write_journal(again), lines)

    def test_labels(self):
        house = house_of(("edit", ("put", 1, ("para", "long", ("xxxxxxxx",) * 16))), ("edit", ("put", 2, ("para", "longer", ("xxxxxxxx",) * 16))), ("send",), ("begin", "d"))
        for label in house.archive.newest.labels:
            further = house.copy()
            further.enter(("lose", "d", label))
            self.assertEqual(write_journal(further)[-1], "lose d " + ".".join(str(part) for part in label))
            self.assertTrue(read_journal(write_journal(further)) == further)


class ReadTest(unittest.TestCase):
    def bad(self, lines, line, word):
        with self.subTest(lines[line:line + 1]), self.assertRaises(BadLine) as caught:
            read_journal(lines)
        self.assertEqual((caught.exception.line, caught.exception.word), (line, word))
        self.assertIsInstance(caught.exception, BadForm)

    def test_the_first_line(self):
        for line, word in (("", 0), ("home 20 6 yes", 0), ("house", 1), ("house 19 6 yes", 1), ("house 61 6 yes", 1), ("house 020 6 yes", 1), ("house x 6 yes", 1),
                           ("house 20", 2), ("house 20 1 yes", 2), ("house 20 13 yes", 2), ("house 20  yes", 2), ("house 20 6", 3), ("house 20 6 Yes", 3),
                           ("house 20 6 true", 3), ("house 20 6 yes ", 4), ("house 20 6 yes no", 4), (" house 20 6 yes", 0), (None, 0), (HEAD, 0)):
            self.bad((line, *LINES[1:]), 0, word)
        for line in ("house 20 2 no", "house 60 12 yes", "house 20 12 no"):
            try:
                read_journal((line, *HEAD[1:]))
            except NoBook:
                continue

    def test_the_second_line(self):
        for line, word in (("", 0), ("texts 8", 0), ("text", 1), ("text 0", 1), ("text 25", 1), ("text 08", 1), ("text -1", 1), ("text 8 8", 2), ("text 8 ", 2), (8, 0)):
            self.bad((LINES[0], line, *LINES[2:]), 1, word)

    def test_the_text(self):
        for at, line, word in ((2, "", 0), (2, "head fees 3 x", 2), (4, "send", 0), (9, "index words pays desk", 3), (9, "", 0), (5, None, 0), (3, "para dues", 2)):
            self.bad((*LINES[:at], line, *LINES[at + 1:]), at, word)
        # A text that is told to be longer takes the entries for blocks, a shorter one blocks for entries.
        self.bad((LINES[0], "text 9", *LINES[2:]), 10, 0)
        self.bad((LINES[0], "text 7", *LINES[2:]), 9, 0)

    def test_lines_that_end_too_early(self):
        for count in range(10):
            self.bad(LINES[:count], count, 0)
        self.assertEqual(len(read_journal(LINES[:10]).entries), 0)

    def test_entries(self):
        for line, word in (("", 0), ("sends", 0), ("send now", 1), ("send ", 1), ("recast 1", 1), ("Send", 0), ("edit", 1), ("edit put", 2), ("edit add 0 fig a 1", 1),
                           ("edit put 25 fig a 1", 2), ("edit put 0", 3), ("edit put 0 fit a 1", 3), ("edit put 0 fig a 7", 5), ("edit put 0 contents a b", 5),
                           ("edit drop", 2), ("edit drop A", 2), ("edit drop a b", 3), ("edit swap a", 3), ("edit swap A fig a 1", 2), ("edit swap a para a see:", 5),
                           ("edit move a", 3), ("edit move a 25", 3), ("edit move a 01", 3), ("edit move a 1 1", 4), ("begin", 1), ("begin A", 1),
                           ("begin abcdefghi", 1), ("begin a b", 2), ("begin ", 1), ("file", 1), ("file a", 2), ("file a 0", 2), ("file a 5", 2), ("file a 01", 2),
                           ("file a -1", 2), ("file a 1 1", 3), ("file 1 1", 1), ("lose a", 2), ("lose a 0", 2), ("lose a 1a", 2), ("lose a 1.0", 2), ("lose a 1.1.1.1", 2),
                           ("lose a 1 1", 3), ("lose", 1), ("heal", 1), ("heal a b", 2), ("heal a ", 2), (" heal a", 0), ("heal  a", 1), (None, 0), (("send",), 0), (3, 0)):
            self.bad((*LINES, line), len(LINES), word)
            self.bad((*HEAD, line, *ENTRIES), len(HEAD), word)

    def raised(self, kind, *lines):
        with self.subTest(lines), self.assertRaises(kind) as caught:
            read_journal(lines)
        return caught.exception

    def test_what_is_judged_when_all_lines_are_read(self):
        self.assertEqual(self.raised(Unknown, *HEAD, "heal desk").name, "desk")
        self.assertEqual(self.raised(Twice, *HEAD, "begin desk", "begin desk").name, "desk")
        self.assertEqual(self.raised(BadPlace, *HEAD, "edit put 24 fig a 1").place, 24)
        self.raised(NoBook, *HEAD, "edit drop more", "send")
        self.assertEqual(self.raised(Unknown, *HEAD[:2], *SETTING[:3], "para late who see:nobody", *SETTING[4:], "begin desk", "begin desk").name, "nobody")
        self.raised(Lacking, "house 20 6 yes", "text 1", "para a next:fig")
        self.assertEqual(self.raised(TooMany, "house 20 6 yes", "text 13", *[f"fig {name} 1" for name in names(13)]).word, "block")
        # A line that cannot be read goes ahead of all of them.
        for first in (("house 20 6 yes", "text 1", "para a next:fig"), (*HEAD, "heal desk"), (*HEAD, "edit drop more", "send")):
            self.bad((*first, "sent"), len(first), 0)

    def test_sixty_entries_and_sixty_one(self):
        lines = (*HEAD, *[f"edit move plan {k % 2 + 2}" for k in range(61)])
        self.assertEqual(len(read_journal(lines[:-1]).entries), 60)
        self.assertEqual(self.raised(TooMany, *lines).word, "entry")
        house, taken = taken_up(lines)
        self.assertEqual((len(house.entries), taken), (60, 70))


class TakenUpTest(unittest.TestCase):
    def check(self, lines, taken):
        house, count = taken_up(lines)
        self.assertEqual(count, taken)
        self.assertIsInstance(house, House)
        self.assertTrue(house == read_journal(lines[:taken]))
        return house

    def torn(self, lines, line):
        with self.subTest(lines), self.assertRaises(Torn) as caught:
            taken_up(lines)
        error = caught.exception
        self.assertEqual(error.line, line)
        self.assertNotIsInstance(error, (BadForm, NotThere))
        return error

    def test_whole_journals(self):
        self.check(LINES, len(LINES))
        self.check(list(LINES), len(LINES))
        self.check(HEAD, len(HEAD))

    def test_cut(self):
        for count in range(len(HEAD), len(LINES) + 1):
            self.check(LINES[:count], count)
        for count in range(len(HEAD)):
            error = self.torn(LINES[:count], count)
            self.assertIsInstance(error.__cause__, BadLine)
            self.assertEqual((error.__cause__.line, error.__cause__.word), (count, 0))

    def test_a_line_too_much(self):
        for line in ("", "x", "begin desk", "heal nobody", None, "text 8"):
            self.check((*LINES, line), len(LINES))
            self.check((*LINES[:12], line, *LINES[12:]), 12)
            self.check((*HEAD, line if line != "begin desk" else "heal desk", *ENTRIES), len(HEAD))
        # A line that is good where it stands is taken, and what rests on it.
        self.check((*LINES, "begin third"), len(LINES) + 1)

    def test_spoilt(self):
        for at in range(len(HEAD), len(LINES)):
            for spoilt in ("", LINES[at] + " ", LINES[at][1:], LINES[at] + "  x", None):
                self.check((*LINES[:at], spoilt, *LINES[at + 1:]), at)
        for at in range(len(HEAD)):
            error = self.torn((*LINES[:at], LINES[at] + " ", *LINES[at + 1:]), at)
            self.assertEqual((error.__cause__.line, error.__cause__.word), (at, len(LINES[at].split(" "))))

    def test_doubled_and_moved(self):
        # An edit can be done again where what it asks for is still there.
        self.check((*LINES[:11], LINES[10], *LINES[11:]), len(LINES) + 1)
        self.check((*LINES[:12], LINES[11], *LINES[12:]), 12)
        self.check((*LINES[:17], LINES[16], *LINES[17:]), 17)
        self.check((*LINES[:13], LINES[14], LINES[13], *LINES[15:]), len(LINES))
        self.check((*HEAD, LINES[13], *LINES[10:13]), len(HEAD))
        self.torn((LINES[1], LINES[0], *LINES[2:]), 0)
        self.torn((LINES[0], *LINES[2:]), 1)
        self.torn((LINES[0], LINES[1], LINES[1], *LINES[2:]), 2)

    def test_blocks_that_are_doubled_or_missing(self):
        # A doubled block pushes the last one behind the text: as lines they can be read only up to there.
        self.torn((*HEAD[:3], HEAD[2], *HEAD[3:], *ENTRIES), 10)
        self.torn((*HEAD[:3], HEAD[2], *HEAD[3:-1]), 0)
        self.torn((*HEAD[:4], *HEAD[5:], *ENTRIES), 9)

    def test_other_errors(self):
        for lines in ((*HEAD[:2], SETTING[1], SETTING[0], *SETTING[2:]), ("house 20 6 yes", "text 1", "para a next:fig"), ("house 20 2 yes", "text 1", "fig a 6"),
                      ("house 20 6 yes", "text 13", *[f"fig {name} 1" for name in names(13)])):
            try:
                read_journal(lines)
                continue
            except AfterError as why:
                self.assertNotIsInstance(why, BadLine)
            for further in ((), ENTRIES):
                self.torn((*lines, *further), 0)
            # The line of a BadLine behind the text is told, though the lines up to the text can be read.
            error = self.torn((*lines, *ENTRIES, "sent", "sent"), len(lines) + len(ENTRIES))
            self.assertIsInstance(error.__cause__, BadLine)

    def test_no_lines(self):
        self.assertEqual(self.torn((), 0).__cause__.word, 0)

    def test_the_most_lines(self):
        random = Random(152)
        for _ in range(6):
            house = random_house(random, 15)
            lines = list(write_journal(house))
            for _ in range(6):
                spoilt = list(lines)
                at = random.randrange(2 + len(house.first_text), len(lines))
                other = random.randrange(2 + len(house.first_text), len(lines))
                change = random.choice(("double", "drop", "swap"))
                if change == "double":
                    spoilt.insert(other, spoilt[at])
                elif change == "drop":
                    spoilt.pop(at)
                else:
                    spoilt[at], spoilt[other] = spoilt[other], spoilt[at]
                whole = []
                for count in range(len(spoilt) + 1):
                    try:
                        read_journal(spoilt[:count])
                        whole.append(count)
                    except AfterError:
                        continue
                self.check(spoilt, max(whole))

    def test_what_is_passed_stays(self):
        lines = [*LINES, "x"]
        self.assertTrue(taken_up(lines)[0] == taken_up(lines)[0])
        self.assertEqual(lines, [*LINES, "x"])
        taken_up(lines)[0].enter(("begin", "other"))
        self.assertTrue(taken_up(lines)[0] == read_journal(LINES))

    def test_time(self):
        lines = write_journal(random_house(Random(153), 60))
        began = perf_counter()
        self.check(lines, len(lines))
        self.assertLess(perf_counter() - began, 5)


if __name__ == "__main__":
    unittest.main()
