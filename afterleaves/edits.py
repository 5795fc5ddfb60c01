"""Editing texts, and the edits that undo edits."""

from afterleaves.blocks import kept_block
from afterleaves.errors import BadEdit, BadPlace
from afterleaves.forms import is_integer, is_sized, is_tuple, is_word
from afterleaves.texts import Text


def judged_edit(edit):
    """The edit as a tuple, its block as it was passed; BadEdit if it has no form of an edit."""
    if not is_sized(edit, 2, 3) or not _has_form(edit):
        raise BadEdit()
    return tuple(edit)


def kept_edit(edit):
    """An edit that can be done, with tuples in the place of lists."""
    return tuple([kept_block(part) if is_tuple(part) else part for part in edit])


def _has_form(edit):
    word = edit[0]
    if len(edit) == 2:
        return word == "drop" and is_word(edit[1])
    if word == "put":
        return is_integer(edit[1])
    if word == "move":
        return is_word(edit[1]) and is_integer(edit[2])
    return word == "swap" and is_word(edit[1])


def edited(text, edit):
    """The text behind the edit."""
    return Text(_edited_blocks(text, judged_edit(edit)))


def _edited_blocks(text, edit):
    blocks = list(text.blocks)
    word = edit[0]
    if word == "put":
        blocks.insert(_judged_place(edit[1], blocks), edit[2])
        return blocks
    spot = text.spot(edit[1])
    block = blocks.pop(spot)
    if word == "swap":
        blocks.insert(spot, edit[2])
    if word == "move":
        blocks.insert(_judged_place(edit[2], blocks), block)
    return blocks


def _judged_place(place, blocks):
    """The place, if a block may be put there among these."""
    if not 0 <= place <= len(blocks):
        raise BadPlace(place)
    return place


def edited_all(text, edits):
    """The text behind all edits, one after the other."""
    for edit in edits:
        text = edited(text, edit)
    return text


def undoing(text, edit):
    """The edit that leads from the edited text back to this one."""
    behind = edited(text, edit)
    word = edit[0]
    if word == "put":
        return ("drop", behind.blocks[edit[1]][1])
    spot = text.spot(edit[1])
    if word == "drop":
        return ("put", spot, text.blocks[spot])
    if word == "swap":
        return ("swap", behind.blocks[spot][1], text.blocks[spot])
    return ("move", edit[1], spot)


def undoing_all(text, edits):
    """The edits that undo all of them, the undoing of the last one first."""
    undoings = []
    for edit in edits:
        undoings.append(undoing(text, edit))
        text = edited(text, edit)
    return tuple(undoings[::-1])
