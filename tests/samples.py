"""Small texts, leaves and books for the tests."""

from afterleaves.books import Book
from afterleaves.leaves import Leaf
from afterleaves.textread import read_text
from afterleaves.texts import Text

EXAMPLE = (
    "head fees 1 what is paid",
    "para dues each pays as told in see:late note:since:may",
    "fig plan 2 the desk",
    "para late who pays late sees next:head",
    "head ends 1 last things",
    "contents list",
    "index words desk pays",
)

EXAMPLE_BLOCKS = (
    ("head", "fees", 1, ("what", "is", "paid")),
    ("para", "dues", ("each", "pays", "as", "told", "in", ("see", "late"), ("note", ("since", "may")))),
    ("fig", "plan", 2, ("the", "desk")),
    ("para", "late", ("who", "pays", "late", "sees", ("next", "head"))),
    ("head", "ends", 1, ("last", "things")),
    ("contents", "list"),
    ("index", "words", ("desk", "pays")),
)


def example():
    return Text(EXAMPLE_BLOCKS)


def para(name, *items):
    return ("para", name, items or ("x",))


def head(name, level=1, words=("x",)):
    return ("head", name, level, words)


def fig(name, rows=1, words=()):
    return ("fig", name, rows, words)


def names(count):
    """So many different names."""
    letters = "abcdefghijklmnopqrstuvwxyz"
    return [letters[k // 26] + letters[k % 26] for k in range(count)]


def aslists(thing):
    """The same thing with lists in the place of all tuples."""
    if isinstance(thing, (tuple, list)):
        return [aslists(part) for part in thing]
    return thing


def leaf(label, front=("f",), back=("b",), pen=()):
    return Leaf(label, front, back, pen)


def book(*leaves):
    return Book(leaves)


SETTING = (
    "head fees 1 what is paid",
    "para dues each pays as told in see:late note:since:may",
    "fig plan 2 the desk",
    "para late who pays late sees next:head",
    "head ends 1 last things",
    "para more the desk span:dues:plan closes",
    "contents list",
    "index words desk pays",
)

SETTING_TOLD = ("1p2/overleaf", "2/facing", "1a-1b")

# The setting of this text with these tokens, for the width 20 and the height 6.
SETTING_LEAVES = (
    ((1,), ("1 what is paid", "1p1 each pays as", "told in 1p2/overleaf", "(*) .", "* since may"),
     ("1f1 the desk", ":", ":", "1p2 who pays late", "sees 2/facing .")),
    ((2,), ("2 last things", "2p1 the desk 1a-1b", "closes ."), ()),
    ((3,), ("- 1/1a what is paid", "- 2/2a last things"), ()),
    ((4,), ("+ desk 1b-2a", "+ pays 1a-1b"), ()),
)


def setting():
    return read_text(SETTING)


def setting_leaves(changes=()):
    """The leaves of the setting, some of them with another front, back or pen: (number, part, what it is)."""
    leaves = [list(parts) + [()] for parts in SETTING_LEAVES]
    for number, part, thing in changes:
        leaves[number][("label", "front", "back", "pen").index(part)] = thing
    return [Leaf(*parts) for parts in leaves]


def setting_book(*changes):
    return Book(setting_leaves(changes))


def page(number, side="a"):
    return ((number,), "ab".index(side))
