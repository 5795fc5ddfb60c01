"""The interface as the document lists it, and the limits that every file of the package keeps to."""

import ast
import unittest
from pathlib import Path

FOLDER = Path(__file__).parent.parent / "afterleaves"

FUNCTIONS = {
    "labels": {"between": "low high", "write_label": "label", "read_label": "word", "write_page": "page",
               "read_page": "word", "neighbours": "labels"},
    "textwrite": {"write_block": "block", "write_text": "text"},
    "textread": {"read_block": "words line first", "read_text": "lines"},
    "edits": {"edited": "text edit", "edited_all": "text edits", "undoing": "text edit", "undoing_all": "text edits"},
    "edittext": {"write_edit": "edit", "read_edit": "line"},
    "lines": {"token_width": "token", "row_width": "row", "set_lines": "tokens width", "line_cost": "rows width",
              "width_changes": "tokens most"},
    "printing": {"see_token": "text target word", "span_token": "first last", "entry_rows": "tokens form"},
    "ranges": {"preferred_ranges": "book pages", "ranges_true": "book pairs pages", "told_pages": "book pairs",
               "write_range": "pair", "read_range": "token"},
    "lasting": {"lasting": "stages"},
    "lists": {"contents_entries": "text places", "index_entry": "term book pages"},
    "looker": {"place_word_true": "book own goal word near", "preferred_place": "book own goal near",
               "preferred_token": "reading k item", "said_token": "reading k item", "is_plain": "text form book"},
    "filling": {"set_book": "text told form"},
    "rounds": {"next_round": "text form book"},
    "settled": {"settled_books": "text form"},
    "successors": {"successor_fault": "old new text form *strokes", "strokes_of": "old new",
                   "price_of": "old new *leaf *stroke"},
    "renewal": {"fresh_book": "text form"},
    "staying": {"staying": "old labels text form", "must_go": "old text form", "quarrels": "old text form"},
    "errata": {"parting": "one other", "needed": "old new"},
    "erratatext": {"write_errata": "errata", "read_errata": "lines"},
    "saying": {"can_say": "lists page row word token", "healing_list": "lists old new"},
    "packets": {"trimmed": "packet", "parting": "one other", "packet_between": "old new"},
    "packettext": {"write_packet": "packet", "read_packet": "lines"},
    "reached": {"binders": "archive *steady", "rows_to": "archive binder *steady"},
    "meetings": {"meeting": "archive wanted *steady", "surely_filed": "archive binder *steady", "surely_missed": "archive binder *steady",
                 "filed_again": "archive binder"},
    "healing": {"healing_packet": "archive *steady"},
    "following": {"follow": "binder place", "walk": "binder place", "pointers_on": "binder"},
    "meanings": {"first_misled": "archive *steady"},
    "seams": {"seams": "binder", "is_seamless": "binder"},
    "chimeras": {"chimeras": "archive *steady"},
    "safety": {"enlarged": "archive added", "is_safe": "archive added", "least_safe": "archive"},
    "plans": {"plan_price": "old texts form words *late", "best_plan": "old texts form *late"},
    "house": {"foreseen": "house entries"},
    "journal": {"write_journal": "house", "read_journal": "lines", "taken_up": "lines"},
}
CLASSES = {
    ("formats", "Format"): {"__init__": "width height near", "__eq__": None},
    ("texts", "Text"): {"__init__": "blocks", "__contains__": None, "__getitem__": None, "__len__": None, "__iter__": None,
                        "__eq__": None, "spot": "name", "pointers": "", "targets": "k item"},
    ("printing", "Printed"): {"__init__": "text k told form", "heights": "", "__len__": None},
    ("leaves", "Leaf"): {"__init__": "label front back pen", "__eq__": None, "side_rows": "side", "says": "side row word",
                         "said_rows": "side", "same_print": "other", "penned": "strokes"},
    ("books", "Book"): {"__init__": "leaves", "labels": "", "__contains__": None, "__getitem__": None, "__len__": None,
                        "__iter__": None, "__eq__": None, "pages": "", "facing": "page", "text_rows": "page",
                        "same_print": "other"},
    ("reading", "Reading"): {"__init__": "text form book", "own": "k item", "term_pages": "word", "entry": "k item"},
    ("looker", "Looker"): {"__init__": "form", "__call__": "text book"},
    ("looker", "Verdict"): {"__init__": "fault", "__bool__": None},
    ("rounds", "Rounds"): {"__init__": "text form first", "rests": "", "__iter__": None, "__len__": None},
    ("renewal", "Renewal"): {"__init__": "old text form *leaf *stroke", "kept": "", "sent": "", "gone": "", "strokes": ""},
    ("errata", "Errata"): {"__init__": "corrections", "__call__": "book", "table": "", "__add__": None, "__len__": None,
                           "__iter__": None, "__eq__": None, "turned": "page row word token"},
    ("packets", "Packet"): {"__init__": "stretches", "__call__": "book", "__add__": None, "__contains__": None, "__eq__": None, "__len__": None,
                            "__iter__": None},
    ("archive", "Archive"): {"__init__": "form texts books", "newest": "", "__len__": None, "packet": "k", "binder": "row"},
    ("meanings", "Meanings"): {"__init__": "archive", "meant": "leaf side row word", "standing": "leaf side row", "judged": "binder place",
                               "misled_places": "binder"},
    ("house", "House"): {"__init__": "form text", "archive": "", "text_now": "", "account": "", "desks": "", "enter": "entry", "binder_of": "name",
                         "copy": "", "upto": "moment", "__eq__": None},
    ("house", "Trial"): {"__init__": "house", "__enter__": "", "__exit__": None},
}


def tree(name):
    return ast.parse((FOLDER / f"{name}.py").read_text(encoding="utf-8"))


def arguments(function):
    """The names of the arguments; those that are passed by name alone have a star."""
    plain = [argument.arg for argument in function.args.args if argument.arg != "self"]
    return " ".join(plain + ["*" + argument.arg for argument in function.args.kwonlyargs])


def functions(body):
    return {node.name: node for node in body if isinstance(node, ast.FunctionDef)}


class InterfaceTest(unittest.TestCase):
    def check(self, told, there, where):
        for name, words in told.items():
            with self.subTest(f"{where}.{name}"):
                self.assertIn(name, there)
                if words is not None:
                    self.assertEqual(arguments(there[name]), words)

    def test_functions(self):
        for name, told in FUNCTIONS.items():
            self.check(told, functions(tree(name).body), name)

    def test_classes(self):
        for (name, kind), told in CLASSES.items():
            bodies = [node.body for node in tree(name).body if isinstance(node, ast.ClassDef) and node.name == kind]
            self.assertEqual(len(bodies), 1)
            self.check(told, functions(bodies[0]), kind)


class LimitsTest(unittest.TestCase):
    def test_the_folder_holds_plain_files_only(self):
        there = [path.name for path in FOLDER.iterdir() if path.name != "__pycache__"]
        self.assertIn("__init__.py", there)
        for name in there:
            self.assertRegex(name, r"^[a-z0-9_]+\.py$")

    def test_sizes_and_characters(self):
        for path in sorted(FOLDER.glob("*.py")):
            with self.subTest(path.name):
                source = path.read_text(encoding="utf-8")
                self.assertRegex(source, r"\A[ -~\n]*\Z")
                self.assertLessEqual(len(source.splitlines()), 399)
                self.assertLessEqual(max([len(line) for line in source.splitlines()]), 120)
                for node in ast.walk(ast.parse(source)):
                    if isinstance(node, ast.FunctionDef):
                        self.assertLessEqual(node.end_lineno - node.lineno + 1, 40, node.name)


class SetsTest(unittest.TestCase):
    """Sets stand after `in`, beside another set that is compared, or straight within sorted(..) or len(..) alone."""

    def misplaced(self, source):
        """The rows of the sets that stand elsewhere."""
        whole = ast.parse(source)
        above = {child: node for node in ast.walk(whole) for child in ast.iter_child_nodes(node)}
        return [node.lineno for node in ast.walk(whole) if is_set(node) and not is_placed(node, above)]

    def test_the_files_of_the_package(self):
        for path in sorted(FOLDER.glob("*.py")):
            with self.subTest(path.name):
                self.assertEqual(self.misplaced(path.read_text(encoding="utf-8")), [])

    def test_what_is_found(self):
        for line in ("sorted(set(xs))", "len({x for x in xs})", "len(set(xs) | set(ys))", "x in set(xs)", "set(xs) != set(ys)"):
            self.assertEqual(self.misplaced(line), [], line)
        for line in ("sorted(set(xs), key=f)", "sorted(set(xs), reverse=True)", "tuple(set(xs))", "set(xs) == ys", "list({x for x in xs})"):
            self.assertEqual(self.misplaced(line), [1], line)


def is_set(node):
    called = isinstance(node, ast.Call) and isinstance(node.func, ast.Name) and node.func.id in ("set", "frozenset")
    return called or isinstance(node, (ast.Set, ast.SetComp))


def is_placed(node, above):
    """Whether a set stands where one may stand."""
    while isinstance(above[node], ast.BinOp):
        node = above[node]
    outer = above[node]
    if isinstance(outer, ast.Compare):
        other = outer.left if node in outer.comparators else outer.comparators[0]
        return isinstance(outer.ops[0], (ast.In, ast.NotIn)) if node in outer.comparators and not is_set(other) else is_set(other)
    return isinstance(outer, ast.Call) and getattr(outer.func, "id", "") in ("sorted", "len") and not outer.keywords


if __name__ == "__main__":
    unittest.main()
