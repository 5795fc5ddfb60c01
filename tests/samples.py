"""Small texts, leaves and books for the tests."""

from afterleaves.books import Book
from afterleaves.leaves import Leaf
from afterleaves.texts import Text

EXAMPLE = (
    "head fees 1 what is paid",
    "para dues each pays as told in see:late note:since:may",
    "fig plan 2 the desk",
    "para late who pays late sees next:head",
    "head ends 1 last things",
    "contents list",
    "index words desk pays",
)

EXAMPLE_BLOCKS = (
    ("head", "fees", 1, ("what", "is", "paid")),
    ("para", "dues", ("each", "pays", "as", "told", "in", ("see", "late"), ("note", ("since", "may")))),
    ("fig", "plan", 2, ("the", "desk")),
    ("para", "late", ("who", "pays", "late", "sees", ("next", "head"))),
    ("head", "ends", 1, ("last", "things")),
    ("contents", "list"),
    ("index", "words", ("desk", "pays")),
)


def example():
    return Text(EXAMPLE_BLOCKS)


def para(name, *items):
    return ("para", name, items or ("x",))


def head(name, level=1, words=("x",)):
    return ("head", name, level, words)


def fig(name, rows=1, words=()):
    return ("fig", name, rows, words)


def names(count):
    """So many different names."""
    letters = "abcdefghijklmnopqrstuvwxyz"
    return [letters[k // 26] + letters[k % 26] for k in range(count)]


def aslists(thing):
    """The same thing with lists in the place of all tuples."""
    if isinstance(thing, (tuple, list)):
        return [aslists(part) for part in thing]
    return thing


def leaf(label, front=("f",), back=("b",), pen=()):
    return Leaf(label, front, back, pen)


def book(*leaves):
    return Book(leaves)
