import unittest

from afterleaves.edits import edited, edited_all, undoing, undoing_all
from afterleaves.errors import (
    AfterError, Backward, BadBlock, BadEdit, BadForm, BadOrder, BadPlace, BadText, Lacking, NotThere, TooMany, Twice,
    Unknown)
from afterleaves.texts import Text
from tests.samples import EXAMPLE_BLOCKS, aslists, example, fig, head, names, para

A, B, C = head("a"), para("b"), fig("c")
NEW = para("new", "w", ("see", "a"))

# Each edit of the text A B C with the blocks behind it and the edit that undoes it.
EDITS = (
    (("put", 0, NEW), (NEW, A, B, C), ("drop", "new")),
    (("put", 1, NEW), (A, NEW, B, C), ("drop", "new")),
    (("put", 3, NEW), (A, B, C, NEW), ("drop", "new")),
    (("drop", "a"), (B, C), ("put", 0, A)),
    (("drop", "c"), (A, B), ("put", 2, C)),
    (("swap", "b", NEW), (A, NEW, C), ("swap", "new", B)),
    (("swap", "b", fig("b")), (A, fig("b"), C), ("swap", "b", B)),
    (("swap", "c", NEW), (A, B, NEW), ("swap", "new", C)),
    (("move", "a", 0), (A, B, C), ("move", "a", 0)),
    (("move", "a", 1), (B, A, C), ("move", "a", 0)),
    (("move", "a", 2), (B, C, A), ("move", "a", 0)),
    (("move", "c", 0), (C, A, B), ("move", "c", 2)),
    (("move", "b", 2), (A, C, B), ("move", "b", 1)),
)

BAD_EDITS = (
    None, 5, "drop", (), [], ("drop",), ("drop", "a", "b"), ("drop", "A"), ("drop", ""), ("drop", None), ("drop", 3),
    ("drop", ("a",)), ("put", 0), ("put", 0, A, A), ("put", "0", A), ("put", True, A), ("put", None, A), ("put", 1.0, A),
    ("swap", "a"), ("swap", "A", A), ("swap", 0, A), ("swap", "a", A, A), ("move", "a"), ("move", "a", "0"),
    ("move", "a", False), ("move", "A", 0), ("move", 0, "a"), ("move", "a", 0, 0), ("turn", "a", 0), ("turn", "a"),
    (None, "a"), ({}, "a", 0), ("Drop", "a"),
)

# Each edit of the text A B C with the error that is due and its attributes.
WRONG_EDITS = (
    (("drop", "no"), Unknown, {"name": "no"}), (("swap", "no", None), Unknown, {"name": "no"}),
    (("move", "no", 99), Unknown, {"name": "no"}),
    (("put", -1, None), BadPlace, {"place": -1}), (("put", 4, A), BadPlace, {"place": 4}),
    (("move", "a", 3), BadPlace, {"place": 3}), (("move", "c", -1), BadPlace, {"place": -1}),
    (("put", 2, None), BadBlock, {"block": 2}), (("swap", "c", ("fig", "c")), BadBlock, {"block": 2}),
    (("put", 0, B), Twice, {"name": "b"}), (("swap", "a", C), Twice, {"name": "c"}),
    (("put", 1, ("contents", "list")), BadOrder, {"place": 2}),
    (("put", 3, para("new", ("see", "no"))), Unknown, {"name": "no"}),
    (("swap", "b", para("new", ("span", "new", "a"))), Backward, {"block": 1, "item": 0}),
    (("put", 3, para("new", "w", ("next", "fig"))), Lacking, {"block": 3, "item": 1}),
)


def abc():
    return Text((A, B, C))


class EditsTest(unittest.TestCase):
    def raised(self, call, kind, told):
        with self.assertRaises(AfterError) as caught:
            call()
        self.assertIs(type(caught.exception), kind)
        for name, value in told.items():
            self.assertEqual(getattr(caught.exception, name), value)
        return caught.exception

    def test_edits(self):
        for edit, blocks, _ in EDITS:
            with self.subTest(edit):
                text = abc()
                self.assertEqual(edited(text, edit).blocks, blocks)
                self.assertEqual(edited(text, edit), edited(text, edit))
                self.assertEqual(text, abc())

    def test_undoing(self):
        for edit, _, undo in EDITS:
            with self.subTest(edit):
                text = abc()
                self.assertEqual(undoing(text, edit), undo)
                self.assertEqual(edited(edited(text, edit), undo), text)
                self.assertEqual(text, abc())

    def test_lists(self):
        for edit, blocks, undo in EDITS:
            listed = aslists(edit)
            self.assertEqual(edited(abc(), listed).blocks, blocks)
            self.assertEqual(undoing(abc(), listed), undo)
            self.assertEqual(listed, aslists(edit))

    def test_no_edits(self):
        for edit in BAD_EDITS:
            for call in (lambda: edited(abc(), edit), lambda: undoing(abc(), edit)):
                with self.subTest(edit):
                    self.assertIsInstance(self.raised(call, BadEdit, {}), BadForm)

    def test_wrong_edits(self):
        for edit, kind, told in WRONG_EDITS:
            text = abc()
            for call in (lambda: edited(text, edit), lambda: undoing(text, edit),
                         lambda: edited_all(text, (("drop", "a"), ("put", 0, A), edit, None)),
                         lambda: undoing_all(text, (("drop", "a"), ("put", 0, A), edit, None))):
                with self.subTest(edit):
                    self.raised(call, kind, told)
            self.assertEqual(text, abc())

    def test_bases(self):
        self.assertIsInstance(self.raised(lambda: edited(abc(), ("put", 9, A)), BadPlace, {}), BadForm)
        self.assertIsInstance(self.raised(lambda: edited(abc(), ("drop", "no")), Unknown, {}), NotThere)

    def test_the_number_of_blocks(self):
        full = Text([head(name) for name in names(24)])
        self.raised(lambda: edited(full, ("put", 24, head("new"))), TooMany, {"word": "block"})
        self.assertEqual(len(edited(full, ("swap", "aa", head("new")))), 24)
        self.assertEqual(edited(full, ("move", "aa", 23)).spot("aa"), 23)
        self.raised(lambda: edited(full, ("put", 25, head("new"))), BadPlace, {"place": 25})

    def test_the_last_block(self):
        one = Text((A,))
        self.raised(lambda: edited(one, ("drop", "a")), BadText, {})
        self.assertEqual(edited(one, ("move", "a", 0)), one)
        self.raised(lambda: edited(one, ("move", "a", 1)), BadPlace, {"place": 1})

    def test_a_block_that_is_pointed_to(self):
        self.raised(lambda: edited(example(), ("drop", "late")), Unknown, {"name": "late"})

    def test_big_places(self):
        self.raised(lambda: edited(abc(), ("put", 10 ** 30, A)), BadPlace, {"place": 10 ** 30})


class ManyEditsTest(unittest.TestCase):
    def test_all(self):
        edits = (("put", 0, NEW), ("move", "a", 3), ("swap", "c", fig("d", 2)), ("drop", "b"), ("drop", "new"))
        text = abc()
        self.assertEqual(edited_all(text, edits).blocks, (fig("d", 2), A))
        undo = undoing_all(text, edits)
        self.assertEqual(undo, (("put", 0, NEW), ("put", 1, B), ("swap", "d", C), ("move", "a", 1), ("drop", "new")))
        self.assertEqual(edited_all(edited_all(text, edits), undo), text)
        self.assertEqual(text, abc())

    def test_none(self):
        self.assertEqual(edited_all(abc(), ()), abc())
        self.assertEqual(undoing_all(abc(), ()), ())

    def test_lists(self):
        edits = aslists((("drop", "a"), ("put", 0, NEW[:2] + (("w",),))))
        before = aslists(edits)
        self.assertEqual(edited_all(abc(), edits).blocks, (para("new", "w"), B, C))
        self.assertEqual(undoing_all(abc(), edits), (("drop", "new"), ("put", 0, A)))
        self.assertEqual(edits, before)

    def test_errors_come_in_their_turn(self):
        for call in (edited_all, undoing_all):
            with self.assertRaises(Unknown) as caught:
                call(abc(), (("drop", "a"), ("drop", "a"), None))
            self.assertEqual(caught.exception.name, "a")
            with self.assertRaises(BadEdit):
                call(abc(), (("drop", "a"), None, ("drop", "a")))

    def test_the_example(self):
        edits = (("move", "plan", 0), ("swap", "dues", para("dues", "w")), ("drop", "list"), ("drop", "late"))
        undo = undoing_all(example(), edits)
        self.assertEqual(undo[0], ("put", 3, EXAMPLE_BLOCKS[3]))
        self.assertEqual(edited_all(edited_all(example(), edits), undo), example())


if __name__ == "__main__":
    unittest.main()
