import unittest

from afterleaves.errors import AfterError, BadForm, BadLabel, BadLeaf, NotThere
from afterleaves.leaves import Leaf
from tests.samples import aslists

FRONT = ("1 what is paid", "1p1 see 1p2/8a (*) .", "* a note")
BACK = ("1p2 each 1/7a .",)
PEN = ((0, 0, 0, "2"), (0, 1, 2, "1p2/facing"), (1, 0, 2, "1/overleaf"))

LONGEST = " ".join(["x" * 20] * 5 + ["y" * 15])
GOOD_ROWS = ("x", "x" * 20, "a b", " ".join(["x"] * 30), LONGEST, "*", ": . ~ !", "- 1/1a", "X 1 $#{}")
BAD_ROWS = ("", " ", " x", "x ", "a  b", "x" * 21, "a " + "x" * 21, " ".join(["x"] * 31), LONGEST + "y",
            " ".join(["x" * 20] * 6), None, 5, ("x",), b"x")
GOOD_SIDES = ((("x",), ()), (("x",) * 12, ("y",) * 12), (("x",), ("y",)))


class JudgingTest(unittest.TestCase):
    def raised(self, kind, word, *arguments):
        with self.subTest(arguments), self.assertRaises(AfterError) as caught:
            Leaf(*arguments)
        self.assertIs(type(caught.exception), kind)
        if kind is BadLeaf:
            self.assertEqual(caught.exception.word, word)
        self.assertIsInstance(caught.exception, BadForm)
        self.assertNotIsInstance(caught.exception, NotThere)
        return caught.exception

    def test_attributes(self):
        made = Leaf((7,), FRONT, BACK, PEN)
        self.assertEqual((made.label, made.front, made.back, made.pen), ((7,), FRONT, BACK, PEN))
        self.assertEqual(Leaf((7,), FRONT, BACK).pen, ())
        named = Leaf(pen=PEN, back=BACK, front=FRONT, label=(7,))
        self.assertEqual(named, made)

    def test_good_sides(self):
        for front, back in GOOD_SIDES:
            made = Leaf((0, 1), front, back)
            self.assertEqual((made.front, made.back), (front, back))
        for row in GOOD_ROWS:
            with self.subTest(row):
                self.assertEqual(Leaf((1,), (row,), (row,)).back, (row,))
        self.assertEqual(len(LONGEST), 120)

    def test_bad_labels(self):
        for label in ((), (0,), (True,), (100,), "7", 7, None, (1, 2, 3, 4)):
            error = self.raised(BadLabel, None, label, None, None, None)
            self.assertEqual(error.label, label)

    def test_bad_fronts(self):
        for front in ((), ("x",) * 13, "x", None, {}):
            self.raised(BadLeaf, "front", (1,), front, None, None)
        for row in BAD_ROWS:
            self.raised(BadLeaf, "front", (1,), ("x", row), ("y",))

    def test_bad_backs(self):
        for back in (("x",) * 13, "x", "", None, {}):
            self.raised(BadLeaf, "back", (1,), ("x",), back, None)
        for row in BAD_ROWS:
            self.raised(BadLeaf, "back", (1,), ("x",), (row, "x"))

    def test_bad_pens(self):
        good = (0, 0, 0, "x")
        for stroke in (None, "x", (), (0, 0, 0), (0, 0, 0, "x", "y"), (2, 0, 0, "x"), (-1, 0, 0, "x"), (False, 0, 0, "x"),
                       (0, False, 0, "x"), (0, 0, False, "x"), (0, "0", 0, "x"), (0, 0, None, "x"), (0, 0, 0, ""),
                       (0, 0, 0, "x" * 21), (0, 0, 0, "a b"), (0, 0, 0, " "), (0, 0, 0, 5), (0, 0, 0, ("x",)),
                       (0, 3, 0, "x"), (0, -1, 0, "x"), (0, 0, 4, "x"), (0, 0, -1, "x"), (1, 1, 0, "x"), (1, 0, 4, "x"),
                       (None, 0, 0, "x"), (0, 0.0, 0, "x"), (1, 12, 0, "x"), (0, 0, 30, "x")):
            self.raised(BadLeaf, "pen", (1,), FRONT, BACK, (stroke,))
        for pen in (None, "x", 5, (good, good), ((0, 0, 0, "x"), (0, 0, 0, "y")), ((0, 0, 1, "x"), (0, 0, 0, "x")),
                    ((0, 1, 0, "x"), (0, 0, 0, "x")), ((1, 0, 0, "x"), (0, 0, 0, "x")), {}, good):
            self.raised(BadLeaf, "pen", (1,), FRONT, BACK, pen)

    def test_good_pens(self):
        for pen in ((), ((0, 0, 0, "x"),), ((0, 0, 3, "x" * 20),), ((0, 0, 0, "1"),), ((0, 2, 0, "y"), (1, 0, 3, "z")),
                    ((0, 0, 1, "b"), (0, 0, 2, "a"), (0, 1, 0, "a"), (1, 0, 0, "a"))):
            self.assertEqual(Leaf((1,), FRONT, BACK, pen).pen, pen)

    def test_no_stroke_on_a_back_without_rows(self):
        self.raised(BadLeaf, "pen", (1,), ("x",), (), ((1, 0, 0, "y"),))

    def test_errors_in_their_order(self):
        self.raised(BadLeaf, "front", (1,), (), ("x",) * 13, 5)
        self.raised(BadLeaf, "back", (1,), ("x",), ("x",) * 13, 5)


class AskingTest(unittest.TestCase):
    def setUp(self):
        self.leaf = Leaf((7,), FRONT, BACK, PEN)

    def test_equality(self):
        self.assertTrue(self.leaf == Leaf((7,), FRONT, BACK, PEN))
        for other in (Leaf((8,), FRONT, BACK, PEN), Leaf((7,), FRONT[:2], BACK, PEN), Leaf((7,), FRONT, BACK * 2, PEN),
                      Leaf((7,), FRONT, BACK), Leaf((7,), FRONT, BACK, ((0, 0, 0, "3"), *PEN[1:])), None,
                      ((7,), FRONT, BACK, PEN)):
            self.assertFalse(self.leaf == other)
            self.assertTrue(self.leaf != other)

    def test_same_print(self):
        for other in (Leaf((7,), FRONT, BACK), self.leaf, Leaf((7,), FRONT, BACK, PEN[:1])):
            self.assertIs(self.leaf.same_print(other), True)
            self.assertIs(other.same_print(self.leaf), True)
        for other in (Leaf((8,), FRONT, BACK), Leaf((7,), BACK, BACK), Leaf((7,), FRONT, ()), Leaf((7,), FRONT, FRONT)):
            self.assertIs(self.leaf.same_print(other), False)

    def test_side_rows(self):
        self.assertEqual(self.leaf.side_rows(0), FRONT)
        self.assertEqual(self.leaf.side_rows(1), BACK)
        self.assertEqual(Leaf((1,), ("x",), ()).side_rows(1), ())

    def test_says(self):
        for place, token in (((0, 0, 0), "2"), ((0, 0, 1), "what"), ((0, 1, 2), "1p2/facing"), ((0, 1, 4), "."),
                             ((1, 0, 2), "1/overleaf"), ((1, 0, 0), "1p2"), ((0, 2, 2), "note")):
            self.assertEqual(self.leaf.says(*place), token)

    def test_says_nothing(self):
        for place in ((0, 3, 0), (0, -1, 0), (0, 0, 4), (0, 0, -1), (1, 1, 0), (1, 0, 4), (1, -1, -1), (0, 99, 99)):
            self.assertIsNone(self.leaf.says(*place))
        self.assertIsNone(Leaf((1,), ("x",), ()).says(1, 0, 0))

    def test_said_rows(self):
        self.assertEqual(self.leaf.said_rows(0), (("2", "what", "is", "paid"), ("1p1", "see", "1p2/facing", "(*)", "."),
                                                  ("*", "a", "note")))
        self.assertEqual(self.leaf.said_rows(1), (("1p2", "each", "1/overleaf", "."),))
        self.assertEqual(Leaf((1,), ("x",), ()).said_rows(1), ())

    def test_lists(self):
        arguments = aslists(((7,), FRONT, BACK, PEN))
        made = Leaf(*arguments)
        self.assertEqual(made, self.leaf)
        self.assertEqual(arguments, aslists(((7,), FRONT, BACK, PEN)))
        for part in arguments:
            part.clear()
        self.assertEqual((made.label, made.front, made.back, made.pen), ((7,), FRONT, BACK, PEN))


class PennedTest(unittest.TestCase):
    def setUp(self):
        self.leaf = Leaf((7,), FRONT, BACK, PEN)

    def test_beside_and_in_the_place_of_own_strokes(self):
        made = self.leaf.penned(((1, 0, 1, "all"), (0, 1, 2, "1p2/9a"), (0, 0, 3, "due")))
        self.assertEqual(made.pen, ((0, 0, 0, "2"), (0, 0, 3, "due"), (0, 1, 2, "1p2/9a"), (1, 0, 1, "all"),
                                    (1, 0, 2, "1/overleaf")))
        self.assertTrue(made.same_print(self.leaf))
        self.assertEqual(self.leaf.pen, PEN)
        self.assertEqual(self.leaf.says(0, 1, 2), "1p2/facing")
        self.assertEqual(made.says(0, 1, 2), "1p2/9a")

    def test_no_strokes(self):
        self.assertEqual(self.leaf.penned(()), self.leaf)
        self.assertEqual(Leaf((7,), FRONT, BACK).penned(PEN), self.leaf)
        self.assertEqual(Leaf((7,), FRONT, BACK).penned(PEN[::-1]), self.leaf)

    def test_a_stroke_may_say_what_is_printed(self):
        self.assertEqual(self.leaf.penned(((0, 0, 0, "1"),)).pen[0], (0, 0, 0, "1"))

    def test_bad_strokes(self):
        twice = ((0, 0, 1, "a"), (1, 0, 0, "b"), (0, 0, 1, "a"))
        for strokes in (twice, ((0, 0, 0, "a"), (0, 0, 0, "b")), ((0, 3, 0, "a"),), ((0, 0, 9, "a"),), ((2, 0, 0, "a"),),
                        ((0, 0, 0, "a b"),), ((0, 0, 0, ""),), ((0, True, 0, "a"),), (None,), None, "ab", 5, ((0, 0, 0),),
                        ((0, 0, 0, "x"), "y"), ((0, -1, 0, "a"),), ((1, 0, -1, "a"),)):
            with self.subTest(strokes), self.assertRaises(BadLeaf) as caught:
                self.leaf.penned(strokes)
            self.assertEqual(caught.exception.word, "pen")
        self.assertEqual(self.leaf.pen, PEN)

    def test_lists(self):
        strokes = [[0, 0, 1, "a"]]
        made = self.leaf.penned(strokes)
        self.assertEqual(made.pen[1], (0, 0, 1, "a"))
        self.assertEqual(strokes, [[0, 0, 1, "a"]])
        self.assertEqual(self.leaf.penned(strokes), made)


if __name__ == "__main__":
    unittest.main()
