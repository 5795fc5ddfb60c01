"""Writing texts as lines."""


def write_block(block):
    """The line of a block."""
    words = [block[0], block[1]]
    if block[0] in ("head", "fig"):
        words.append(str(block[2]))
    if block[0] != "contents":
        words.extend([_item_word(item) for item in block[-1]])
    return " ".join(words)


def _item_word(item):
    """The word of an item of a paragraph, or of a word of another block."""
    if isinstance(item, str):
        return item
    if item[0] == "note":
        return ":".join(["note", *item[1]])
    return ":".join(list(item))


def write_text(text):
    """The lines of a text."""
    return tuple([write_block(block) for block in text.blocks])
