"""Texts at random, always the same ones, for tests that hold something for all of them."""

from random import Random

from afterleaves.edits import edited
from afterleaves.errors import AfterError
from afterleaves.texts import Text

WORDS = ("desk", "fee", "pays", "late", "who", "sum", "mammal", "wigwam", "if", "a", "rules", "binder", "keeper", "office")


def random_words(random, least, most):
    return tuple([random.choice(WORDS) for _ in range(random.randint(least, most))])


def random_block(random, name, items, chapters):
    kind = random.choice(("head", "para", "para", "para", "fig"))
    if kind == "head":
        return (kind, name, random.choice((1, 2)) if chapters else 2, random_words(random, 1, 4))
    if kind == "fig":
        return (kind, name, random.randint(1, 3), random_words(random, 0, 4))
    things = list(random_words(random, 1, items))
    if random.random() < 0.2:
        things.insert(random.randint(0, len(things)), ("note", random_words(random, 1, 4)))
    return (kind, name, tuple(things))


def random_pointer(random, names):
    kind = random.choice(("see", "see", "see", "span", "next"))
    if kind == "see":
        return (kind, random.choice(names))
    if kind == "next":
        return (kind, random.choice(("head", "para", "fig")))
    first = random.randrange(len(names))
    return (kind, names[first], random.choice(names[first:]))


def random_text(random, blocks, pointers, items=8, chapters=True):
    """A text of about so many blocks, with so many pointers."""
    while True:
        names = ["abcdefghijklmnopqrstuvwxyz"[k] for k in range(blocks)]
        made = [random_block(random, name, items, chapters) for name in names]
        if made[-1][0] == "head":
            made[-1] = ("para", names[-1], random_words(random, 1, items))
        paras = [k for k, block in enumerate(made) if block[0] == "para"]
        for _ in range(pointers if paras else 0):
            k = random.choice(paras)
            things = list(made[k][2])
            things.insert(random.randint(0, len(things)), random_pointer(random, names))
            made[k] = ("para", names[k], tuple(things))
        if random.random() < 0.5:
            made.append(("contents", "list"))
        if random.random() < 0.5:
            made.append(("index", "terms", tuple(sorted(set(random_words(random, 1, 5))))))
        try:
            text = Text(made)
        except AfterError:
            continue
        if len(text.pointers()) == pointers:
            return text


def random_texts(seed, count, blocks, pointers, items=8, chapters=True):
    random = Random(seed)
    return [random_text(random, random.choice(blocks), random.choice(pointers), items, chapters) for _ in range(count)]


def random_edit(random, text):
    """The text with one edit at random."""
    while True:
        block = random.choice(text.blocks)
        place = random.randint(0, len(text))
        words = tuple(random.choice(WORDS) for _ in range(random.randint(1, 6)))
        edits = [("drop", block[1]), ("put", place, ("para", "new", words)), ("move", block[1], place)]
        if block[0] == "para":
            items = list(block[2])
            items.insert(random.randint(0, len(items)), random.choice(WORDS))
            edits.extend([("swap", block[1], ("para", block[1], items))] * 3)
        try:
            return edited(text, random.choice(edits))
        except AfterError:
            continue
