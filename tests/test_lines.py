import random
import unittest
from itertools import combinations

from afterleaves.lines import line_cost, row_width, set_lines, token_width, width_changes

SIGNS = "abcmw./-:*(1"


def told_width(token):
    return sum([2 if sign in "mw" else 1 for sign in token])


def told_cost(rows, width):
    return sum([(width - told_width(row)) ** 2 for row in rows[:-1]])


def cuts(tokens, width):
    """All ways of cutting tokens into rows that are not too wide: their costs, tokens in each row, and rows."""
    for count in range(len(tokens)):
        for inner in combinations(range(1, len(tokens)), count):
            ends = [0, *inner, len(tokens)]
            rows = tuple([" ".join(tokens[one:two]) for one, two in zip(ends, ends[1:])])
            if all([told_width(row) <= width for row in rows]):
                yield told_cost(rows, width), [one - two for one, two in zip(ends, ends[1:])], rows


def some_tokens(chance, count, longest):
    return tuple(["".join([chance.choice(SIGNS) for _ in range(chance.randint(1, longest))]) for _ in range(count)])


class WidthTest(unittest.TestCase):
    def test_tokens(self):
        for token, width in (("a", 1), ("m", 2), ("w", 2), ("mw", 4), ("M", 1), ("W", 1), ("1p2/overleaf", 12), ("mmmmmmmm", 16),
                             ("(*)", 3), (".", 1), ("women", 7), ("7a-7b", 5)):
            self.assertEqual(token_width(token), width)

    def test_rows(self):
        for row, width in (("a", 1), ("w", 2), ("a b", 3), ("aaaaaaaa bbbbbbbb cc", 20), ("m w m", 8), (". .", 3)):
            self.assertEqual(row_width(row), width)


class LinesTest(unittest.TestCase):
    def test_the_example(self):
        tokens = ("aaaaaaaa", "bbbbbbbb", "cc", "dddd")
        rows = ("aaaaaaaa bbbbbbbb cc", "dddd")
        self.assertEqual(set_lines(tokens, 20), rows)
        self.assertEqual(line_cost(rows, 20), 0)

    def test_the_last_row_costs_nothing(self):
        self.assertEqual(line_cost(("a",), 20), 0)
        self.assertEqual(line_cost(("a", "b"), 20), 361)
        self.assertEqual(line_cost(["m", "a b", "c"], 20), 18 ** 2 + 17 ** 2)
        self.assertEqual(line_cost(("a" * 60, "b"), 60), 0)

    def test_one_row(self):
        self.assertEqual(set_lines(("a",), 20), ("a",))
        self.assertEqual(set_lines(("a" * 20,), 20), ("a" * 20,))
        self.assertEqual(set_lines(("a" * 8, "b" * 11), 20), ("a" * 8 + " " + "b" * 11,))
        self.assertEqual(set_lines(("a" * 8, "b" * 12), 20), ("a" * 8, "b" * 12))

    def test_tokens_as_wide_as_the_width(self):
        self.assertEqual(set_lines(("a" * 20, "b", "c" * 20, "m" * 10), 20), ("a" * 20, "b", "c" * 20, "m" * 10))

    def test_m_and_w_are_two_wide(self):
        self.assertEqual(set_lines(("m" * 8, "aaa"), 20), ("m" * 8 + " aaa",))
        self.assertEqual(set_lines(("w" * 8, "aam"), 20), ("w" * 8, "aam"))

    def test_not_the_greedy_way(self):
        # Filling the first row with three tokens costs 0 and then 100; two and two cost 25 and 25.
        tokens = ("a" * 9, "b" * 5, "c" * 4, "d" * 10, "e" * 20, "f")
        rows = set_lines(tokens, 20)
        self.assertEqual(rows, ("aaaaaaaaa bbbbb", "cccc dddddddddd", "e" * 20, "f"))
        self.assertEqual(line_cost(rows, 20), 50)

    def test_costs_are_squares(self):
        # The squares of what the rows lack are 144, 25 and 4; another way has 0, 121 and 64, but the lesser cubes.
        tokens = tuple(["a" * width for width in (8, 11, 3, 5, 12, 12, 1)])
        rows = set_lines(tokens, 20)
        self.assertEqual([row_width(row) for row in rows], [8, 15, 18, 14])
        self.assertEqual(line_cost(rows, 20), 173)

    def test_against_all_ways(self):
        chance = random.Random(7)
        for width in (20, 21, 23, 30, 60):
            for _ in range(40):
                self.check(some_tokens(chance, chance.randint(1, 9), min(10, width // 3)), width)

    def test_against_all_ways_where_several_are_equal(self):
        chance = random.Random(9)
        several = 0
        for _ in range(200):
            tokens = tuple(["a" * chance.choice((3, 12, 20)) for _ in range(9)])
            several += self.check(tokens, 20) > 1
        self.assertGreater(several, 20)

    def check(self, tokens, width):
        """Checks the lines of tokens against all ways of cutting them; returns how many are the cheapest."""
        ways = sorted(list(cuts(tokens, width)))
        with self.subTest(tokens=tokens, width=width):
            rows = set_lines(tokens, width)
            self.assertEqual(rows, ways[0][2])
            self.assertEqual(line_cost(rows, width), ways[0][0])
        return len([way for way in ways if way[0] == ways[0][0]])

    def test_of_equal_ways_the_longest_first_row(self):
        # Both cost 8 * 8 + 4 * 4: five and nine in the first two rows, or nine and five.
        tokens = ("a" * 12, "b" * 3, "c" * 12, "d" * 20)
        ways = sorted(list(cuts(tokens, 20)))
        self.assertEqual(ways[0][0], ways[1][0])
        self.assertEqual(set_lines(tokens, 20), ("a" * 12 + " bbb", "c" * 12, "d" * 20))

    def test_of_equal_ways_the_longest_second_row(self):
        tokens = ("z" * 20, "a" * 12, "b" * 3, "c" * 12, "d" * 20)
        self.assertEqual(set_lines(tokens, 20)[:3], ("z" * 20, "a" * 12 + " bbb", "c" * 12))

    def test_a_long_row_of_tokens(self):
        rows = set_lines(("abcdefghi",) * 200, 20)
        self.assertEqual(rows, ("abcdefghi abcdefghi",) * 100)

    def test_lists_stay(self):
        tokens = ["aaaaaaaa", "bbbbbbbb", "cc", "dddd"]
        rows = set_lines(tokens, 20)
        self.assertEqual(rows, ("aaaaaaaa bbbbbbbb cc", "dddd"))
        self.assertIsInstance(rows, tuple)
        self.assertEqual(tokens, ["aaaaaaaa", "bbbbbbbb", "cc", "dddd"])
        self.assertEqual(width_changes(tokens, 60), width_changes(tuple(tokens), 60))


class WidthChangesTest(unittest.TestCase):
    def told(self, tokens, most):
        least = max(20, *[told_width(token) for token in tokens])
        changes = [width for width in range(least + 1, most + 1) if set_lines(tokens, width) != set_lines(tokens, width - 1)]
        return (least, *changes)

    def test_the_example(self):
        tokens = ("aaaaaaaa", "bbbbbbbb", "cc", "dddd")
        self.assertEqual(width_changes(tokens, 60), (20, 25))
        self.assertEqual(width_changes(tokens, 25), (20, 25))
        self.assertEqual(width_changes(tokens, 24), (20,))
        self.assertEqual(width_changes(tokens, 20), (20,))

    def test_one_token(self):
        self.assertEqual(width_changes(("a",), 60), (20,))
        self.assertEqual(width_changes(("a" * 33,), 60), (33,))
        self.assertEqual(width_changes(("m" * 16,), 32), (32,))
        self.assertEqual(width_changes(("a" * 60,), 60), (60,))

    def test_the_widest_token_tells_the_least_width(self):
        self.assertEqual(width_changes(("a" * 20, "b" * 25, "c"), 60), (25, 27, 46, 48))

    def test_against_each_width(self):
        chance = random.Random(8)
        for most in (20, 30, 60):
            for _ in range(20):
                tokens = some_tokens(chance, chance.randint(1, 18), 10)
                self.assertEqual(width_changes(tokens, most), self.told(tokens, most))


if __name__ == "__main__":
    unittest.main()
