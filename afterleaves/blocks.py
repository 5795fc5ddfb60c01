"""The forms of blocks and of the items of paragraphs.

Each function here gives what it is passed with tuples in the place of lists, or None if the form is wrong.
"""

from afterleaves.forms import is_sized, is_within, is_word

PLAIN_KINDS = ("head", "para", "fig")
POINTERS = ("see", "span", "next")


def is_pointer(item):
    """Whether an item of a paragraph is a pointer."""
    return not isinstance(item, str) and item[0] in POINTERS


def is_note(item):
    """Whether an item of a paragraph is a note."""
    return not isinstance(item, str) and item[0] == "note"


def must_begin_leaf(block):
    """Whether the first row of a block must be the first one of a leaf."""
    return block[0] in ("contents", "index") or (block[0] == "head" and block[2] == 1)


def kept_words(words, least, most):
    """A row of so many words."""
    if not is_sized(words, least, most) or not all([is_word(word) for word in words]):
        return None
    return tuple(words)


def kept_item(item):
    """An item of a paragraph."""
    if isinstance(item, str):
        return item if is_word(item) else None
    if not is_sized(item, 2, 3):
        return None
    return _kept_span(item) if len(item) == 3 else _kept_pair(item)


def _kept_span(item):
    if item[0] == "span" and is_word(item[1]) and is_word(item[2]):
        return tuple(item)
    return None


def _kept_pair(item):
    kind, told = item
    if kind == "note":
        words = kept_words(told, 1, 4)
        return None if words is None else ("note", words)
    if kind == "see" and is_word(told):
        return ("see", told)
    if kind == "next" and told in PLAIN_KINDS:
        return ("next", told)
    return None


def kept_block(block):
    """A block of any kind."""
    if not is_sized(block, 2, 4) or not is_word(block[1]):
        return None
    kind = block[0]
    if kind == "head":
        return _kept_head(block)
    if kind == "para":
        return _kept_para(block)
    if kind == "fig":
        return _kept_figure(block)
    if kind == "index":
        return _kept_index(block)
    return ("contents", block[1]) if kind == "contents" and len(block) == 2 else None


def _kept_head(block):
    if len(block) != 4 or not is_within(block[2], 1, 2):
        return None
    words = kept_words(block[3], 1, 6)
    return None if words is None else ("head", block[1], block[2], words)


def _kept_para(block):
    if len(block) != 3 or not is_sized(block[2], 1, 16):
        return None
    items = [kept_item(item) for item in block[2]]
    return None if None in items else ("para", block[1], tuple(items))


def _kept_figure(block):
    if len(block) != 4 or not is_within(block[2], 1, 6):
        return None
    words = kept_words(block[3], 0, 4)
    return None if words is None else ("fig", block[1], block[2], words)


def _kept_index(block):
    if len(block) != 3:
        return None
    terms = kept_words(block[2], 1, 8)
    if terms is None or not all([one < other for one, other in zip(terms, terms[1:])]):
        return None
    return ("index", block[1], terms)
